/-
  AffineOp of the program and of the model.
-/
import Derived.Test.YtoojgaaggdnpiaaConstOp
import Derived.Test.YtoojgaaggdnpiaaGSet
import Derived.Test.YtoojgaaggdnpiaaDepends
import Derived.Deep.AppendLies
namespace Go.Proofs.Ytoojgaaggdnpiaa
open Go.RowKit

/-- x - y + z of the digits of a number. -/
def affV (p n : Nat) : Int := ((digN p 3 n 0 : Int) - (digN p 3 n 1 : Int) + (digN p 3 n 2 : Int) + 6) % (p : Int)
def affL (p : Nat) : List Int := rowF (affV p) (p ^ 3)

set_option linter.unusedSimpArgs false in
set_option maxRecDepth 100000 in
theorem isPrimeC (p : Int) (b : Bool) (w : World) (hb : Tells b (p = 2 ∨ p = 3)) : Calls Try.prog 134 #[.int .i64 p] w fun e w' => e = .returned (.bool b) ∧ w = w' := by
  have HB := Lib.hid hb
  clear hb
  by_cases h2 : p = 2
  · subst h2
    have HF := Lib.hid (HB.out.is_true (.inl rfl))
    go_enter Try.func134, Try.ntmps134
    go_wp2
    go_ret
    exact ⟨ret_bool HF.out.symm, rfl⟩
  by_cases h3 : p = 3
  · subst h3
    have HF := Lib.hid (HB.out.is_true (.inr rfl))
    go_enter Try.func134, Try.ntmps134
    go_wp2
    go_ret
    exact ⟨ret_bool HF.out.symm, rfl⟩
  have n2 : (p == 2) = false := by simp [h2]
  have n3 : (p == 3) = false := by simp [h3]
  have HF := Lib.hid (HB.out.is_false fun h => by omega)
  clear h2 h3
  go_enter Try.func134, Try.ntmps134
  go_wp2
  go_ret
  exact ⟨ret_bool HF.out.symm, rfl⟩

set_option linter.unusedSimpArgs false in
set_option maxRecDepth 100000 in
theorem l07PrimeC (p : Int) (b : Bool) (w : World) (hb : Tells b (p = 2 ∨ p = 3)) : Calls Try.prog 132 #[.int .i64 p] w fun e w' => e = .returned (.bool b) ∧ w = w' := by
  have HB := Lib.hid hb
  clear hb
  by_cases h2 : p = 2
  · subst h2
    have HF := Lib.hid (HB.out.is_true (.inl rfl))
    go_enter Try.func132, Try.ntmps132
    go_wp2
    go_ret
    exact ⟨ret_bool HF.out.symm, rfl⟩
  by_cases h3 : p = 3
  · subst h3
    have HF := Lib.hid (HB.out.is_true (.inr rfl))
    go_enter Try.func132, Try.ntmps132
    go_wp2
    go_ret
    exact ⟨ret_bool HF.out.symm, rfl⟩
  have n2 : (p == 2) = false := by simp [h2]
  have n3 : (p == 3) = false := by simp [h3]
  have HF := Lib.hid (HB.out.is_false fun h => by omega)
  clear h2 h3
  go_enter Try.func132, Try.ntmps132
  go_wp2
  go_ret
  exact ⟨ret_bool HF.out.symm, rfl⟩

set_option linter.unusedSimpArgs false in
set_option maxHeartbeats 2000000 in
set_option maxRecDepth 100000 in
theorem implAffine2 (w : World) : Calls Try.prog 83 #[.int .i64 2] w (MadeOp2 w 3 (affL 2) 0) := by
  have hB := Box.new 32 (w.alloc (.cells #[.int .i64 0, .slice none 0 0] 32)) #[.int .i64 3, .slice none 0 0]
  rw [World.size_alloc] at hB
  have HBX0 := Lib.hid hB
  clear hB
  have HR0 := Lib.hid (Box.new 32 w #[.int .i64 0, .slice none 0 0])
  obtain ⟨i0, hi0, hz0, hz1, hz2⟩ := info_parts info_intT
  go_enter Try.func83, Try.ntmps83
  go_wp2_with fail
  refine (isPrimeC 2 true _ (Tells.yes (by decide))).mono ?_
  rintro e w1 ⟨rfl, rfl⟩
  go_wp2
  go_loopw [14] (fun i wr => ∃ x : Nat, x ≤ 2 ∧ i = .int .i64 x ∧ ∃ (a : Option Addr) (n c : Nat), Box 32 wr (w.heap.size + 1) #[.int .i64 3, .slice a n c] ∧ Box 32 wr w.heap.size #[.int .i64 0, .slice none 0 0] ∧ wr.ownsRow (w.heap.size + 2) 2 1 (.slice a n c) (x * 2 * 2) ((rowF (affV 2) (x * 2 * 2)).map (Value.int .i64)) ∧ Below w.heap.size w wr ∧ w.heap.size + 2 ≤ wr.heap.size) (fun i _ => 2 - (intOf i).toNat)
  case atStart => exact ⟨0, by omega, rfl, none, 0, 0, HBX0.out, HR0.out.below ((Below.refl _ _).alloc (Nat.le_refl _) _), World.ownsRow_nil _ _ _ 1, ((Below.refl _ _).alloc (Nat.le_refl _) _).alloc (by simp) _, by simp⟩
  case round =>
    obtain ⟨x, hx, rfl, hinv⟩ := hrel
    have HI := Lib.hid hinv
    clear hinv
    by_cases hxl : x < 2
    case neg =>
      obtain rfl : x = 2 := by omega
      obtain ⟨a, n, c, hbx, hb0, hown, hbel, hsz⟩ := HI.out
      have HBX := Lib.hid hbx
      have HB0 := Lib.hid hb0
      have HO := Lib.hid hown
      have HW := Lib.hid hbel
      clear hbx hb0 hown hbel
      have hm : n = 8 := by
        rcases ownsRow_parts HO.out with ⟨hv, h0, _⟩ | ⟨_, _, hv, _⟩ <;> simp only [Value.slice.injEq] at hv <;> omega
      subst hm
      have HE : Hid (OwnRow wr (w.heap.size + 2) (.slice a 8 c) (affL 2)) := by
        show World.ownsRow _ _ _ _ _ _ _
        unfold affL
        rw [rowF_len]
        exact HO.out
      have d0 := HBX.out.c 0 rfl
      have d1 := HBX.out.c 1 rfl
      have e0 := HB0.out.c 0 rfl
      have e1 := HB0.out.c 1 rfl
      have f0 := HB0.out.free 0
      have f1 := HB0.out.free 1
      go_wp2
      refine bodyPost_ret (v := .tuple #[.agg #[.int .i64 3, .slice a 8 c], .int .i64 0]) (by simp [results, Try.results83, go_sem, e0, e1]) rfl ⟨_, _, _, rfl, ?_, ?_⟩
      · exact (((HE.out.stored (by show w.heap.size < w.heap.size + 2; omega) _).stored (by show w.heap.size < w.heap.size + 2; omega) _).mono (by omega)).full
      · exact (HW.out.setCell (Nat.le_refl _) _).setCell (Nat.le_refl _) _
    have hx' : (x : Int) < 2 := by omega
    go_wp2
    go_loopw [18] (fun i wr => ∃ y : Nat, y ≤ 2 ∧ i = .int .i64 y ∧ ∃ (a : Option Addr) (n c : Nat), Box 32 wr (w.heap.size + 1) #[.int .i64 3, .slice a n c] ∧ Box 32 wr w.heap.size #[.int .i64 0, .slice none 0 0] ∧ wr.ownsRow (w.heap.size + 2) 2 1 (.slice a n c) ((x * 2 + y) * 2) ((rowF (affV 2) ((x * 2 + y) * 2)).map (Value.int .i64)) ∧ Below w.heap.size w wr ∧ w.heap.size + 2 ≤ wr.heap.size) (fun i _ => 2 - (intOf i).toNat)
    case atStart => exact ⟨0, by omega, rfl, HI.out⟩
    case round =>
      obtain ⟨y, hy, rfl, hinv⟩ := hrel
      have HI2 := Lib.hid hinv
      clear hinv
      by_cases hyl : y < 2
      case neg =>
        obtain rfl : y = 2 := by omega
        go_wp2
        go_roundw
        case rel => exact ⟨x + 1, by omega, by go_num, by rw [show (x + 1) * 2 * 2 = (x * 2 + 2) * 2 by omega]; exact HI2.out⟩
        case measure => simp [intOf]; omega
      have hy' : (y : Int) < 2 := by omega
      go_wp2
      go_loopw [22] (fun i wr => ∃ z : Nat, z ≤ 2 ∧ i = .int .i64 z ∧ ∃ (a : Option Addr) (n c : Nat), Box 32 wr (w.heap.size + 1) #[.int .i64 3, .slice a n c] ∧ Box 32 wr w.heap.size #[.int .i64 0, .slice none 0 0] ∧ wr.ownsRow (w.heap.size + 2) 2 1 (.slice a n c) ((x * 2 + y) * 2 + z) ((rowF (affV 2) ((x * 2 + y) * 2 + z)).map (Value.int .i64)) ∧ Below w.heap.size w wr ∧ w.heap.size + 2 ≤ wr.heap.size) (fun i _ => 2 - (intOf i).toNat)
      case atStart => exact ⟨0, by omega, rfl, HI2.out⟩
      case round =>
        obtain ⟨z, hz, rfl, a, n, c, hbx, hb0, hown, hbel, hsz⟩ := hrel
        have HBX := Lib.hid hbx
        have HB0 := Lib.hid hb0
        have HO := Lib.hid hown
        have HW := Lib.hid hbel
        clear hbx hb0 hown hbel
        by_cases hzl : z < 2
        case neg =>
          obtain rfl : z = 2 := by omega
          go_wp2
          go_roundw
          case rel => exact ⟨y + 1, by omega, by go_num, a, n, c, HBX.out, HB0.out, by rw [show (x * 2 + (y + 1)) * 2 = (x * 2 + y) * 2 + 2 by omega]; exact HO.out, HW.out, hsz⟩
          case measure => simp [intOf]; omega
        case pos =>
          have hz' : (z : Int) < 2 := by omega
          have b1 : IntKind.i64.wrap ((x : Int) - (y : Int)) = (x : Int) - (y : Int) := IntWalk.i64_in _ (by omega)
          have b2 : IntKind.i64.wrap ((x : Int) - (y : Int) + (z : Int)) = (x : Int) - (y : Int) + (z : Int) := IntWalk.i64_in _ (by omega)
          have b3 : IntKind.i64.wrap ((x : Int) - (y : Int) + (z : Int) + 2) = (x : Int) - (y : Int) + (z : Int) + 2 := IntWalk.i64_in _ (by omega)
          obtain ⟨v, hv⟩ : ∃ v, affV 2 ((x * 2 + y) * 2 + z) = v := ⟨_, rfl⟩
          have b4 : Int.tmod ((x : Int) - (y : Int) + (z : Int) + 2) 2 = v := by
            rw [← hv, Int.tmod_eq_emod_of_nonneg (by omega)]
            have g0 : digN 2 3 ((x * 2 + y) * 2 + z) 0 = ((x * 2 + y) * 2 + z) / 4 % 2 := rfl
            have g1 : digN 2 3 ((x * 2 + y) * 2 + z) 1 = ((x * 2 + y) * 2 + z) / 2 % 2 := rfl
            have g2 : digN 2 3 ((x * 2 + y) * 2 + z) 2 = ((x * 2 + y) * 2 + z) / 1 % 2 := rfl
            have j0 : ((x * 2 + y) * 2 + z) / 4 % 2 = x := by clear b1 b2 b3; omega
            have j1 : ((x * 2 + y) * 2 + z) / 2 % 2 = y := by clear b1 b2 b3; omega
            have j2 : ((x * 2 + y) * 2 + z) / 1 % 2 = z := by clear b1 b2 b3; omega
            unfold affV
            rw [g0, g1, g2, j0, j1, j2]
            clear b1 b2 b3 g0 g1 g2 j0 j1 j2
            omega
          have HAV := Lib.hid hv
          clear hv
          have d1 := HBX.out.c 1 rfl
          go_wp2
          refine wp_region_noPanic ?_
          refine wp_region_late (S := (fun w' => w'.cell? ⟨w.heap.size + 1, 1, none⟩ = some (.slice a n c))) [12, 14] (by kernel_rfl) ?_ (fun hHeld => ?_)
          · exact d1
          refine wpAnyL_free (i := 0) (v := ?_) (some 25) rfl rfl (by kernel_rfl) (by kernel_rfl) (by kernel_rfl) (by decide) (fun _ _ _ h => h) (Or.inl ⟨by rfl, ?_⟩) (fun h0 => by assumption) ?_
          rotate_left
          · intro wS
            go_simp
            try with_reducible rfl
          try simp only [Act.put, List.setIfInBounds_toArray, List.set_cons_zero, List.set_cons_succ]
          refine wpAnyL_take (i := 1) (v := ?_) (some 26) rfl rfl (by kernel_rfl) (by kernel_rfl) (by kernel_rfl) (by kernel_rfl) (by kernel_rfl) (fun _ _ _ h => h) (Or.inl ⟨by rfl, ?_⟩) (by assumption) ?_
          rotate_left
          · intro wS hSw
            try dsimp only at hSw
            go_simp
            try with_reducible rfl
          try simp only [Act.put, List.setIfInBounds_toArray, List.set_cons_zero, List.set_cons_succ]
          refine wpAnyL_free (i := 2) (v := ?_) (some 27) rfl rfl (by kernel_rfl) (by kernel_rfl) (by kernel_rfl) (by decide) (fun _ _ _ h => h) (Or.inl ⟨by rfl, ?_⟩) (fun h0 => by assumption) ?_
          rotate_left
          · intro wS
            go_simp
            try with_reducible rfl
          try simp only [Act.put, List.setIfInBounds_toArray, List.set_cons_zero, List.set_cons_succ]
          refine wpAnyL_free (i := 3) (v := ?_) (some 28) rfl rfl (by kernel_rfl) (by kernel_rfl) (by kernel_rfl) (by decide) (fun _ _ _ h => h) (Or.inl ⟨by rfl, ?_⟩) (fun h0 => by assumption) ?_
          rotate_left
          · intro wS
            go_simp
            try with_reducible rfl
          try simp only [Act.put, List.setIfInBounds_toArray, List.set_cons_zero, List.set_cons_succ]
          refine wpAnyL_free (i := 4) (v := ?_) (some 29) rfl rfl (by kernel_rfl) (by kernel_rfl) (by kernel_rfl) (by decide) (fun _ _ _ h => h) (Or.inl ⟨by rfl, ?_⟩) (fun h0 => by assumption) ?_
          rotate_left
          · intro wS
            go_simp
            try with_reducible rfl
          try simp only [Act.put, List.setIfInBounds_toArray, List.set_cons_zero, List.set_cons_succ]
          refine wpAnyL_free (i := 5) (v := ?_) (some 30) rfl rfl (by kernel_rfl) (by kernel_rfl) (by kernel_rfl) (by decide) (fun _ _ _ h => h) (Or.inl ⟨by rfl, ?_⟩) (fun h0 => by assumption) ?_
          rotate_left
          · intro wS
            go_simp
            try with_reducible rfl
          try simp only [Act.put, List.setIfInBounds_toArray, List.set_cons_zero, List.set_cons_succ]
          refine wpAnyL_free (i := 6) (v := ?_) (some 31) rfl rfl (by kernel_rfl) (by kernel_rfl) (by kernel_rfl) (by decide) (fun _ _ _ h => h) (Or.inl ⟨by rfl, ?_⟩) (fun h0 => by assumption) ?_
          rotate_left
          · intro wS
            go_simp
            try with_reducible rfl
          try simp only [Act.put, List.setIfInBounds_toArray, List.set_cons_zero, List.set_cons_succ]
          refine wpAnyL_free (i := 7) (v := ?_) (some 32) rfl rfl (by kernel_rfl) (by kernel_rfl) (by kernel_rfl) (by decide) (fun _ _ _ h => h) (Or.inl ⟨by rfl, ?_⟩) (fun h0 => by assumption) ?_
          rotate_left
          · intro wS
            go_simp
            try with_reducible rfl
          try simp only [Act.put, List.setIfInBounds_toArray, List.set_cons_zero, List.set_cons_succ]
          refine wpAnyL_free (i := 8) (v := ?_) (some 33) rfl rfl (by kernel_rfl) (by kernel_rfl) (by kernel_rfl) (by decide) (fun _ _ _ h => h) (Or.inl ⟨by rfl, ?_⟩) (fun h0 => by assumption) ?_
          rotate_left
          · intro wS
            go_simp
            try with_reducible rfl
          try simp only [Act.put, List.setIfInBounds_toArray, List.set_cons_zero, List.set_cons_succ]
          refine wpAnyL_free (i := 9) (v := ?_) (some 34) rfl rfl (by kernel_rfl) (by kernel_rfl) (by kernel_rfl) (by decide) (fun _ _ _ h => h) (Or.inl ⟨by rfl, ?_⟩) (fun h0 => by assumption) ?_
          rotate_left
          · intro wS
            go_simp
            try with_reducible rfl
          try simp only [Act.put, List.setIfInBounds_toArray, List.set_cons_zero, List.set_cons_succ]
          refine wpAnyL_free (i := 10) (v := ?_) (some 35) rfl rfl (by kernel_rfl) (by kernel_rfl) (by kernel_rfl) (by decide) (fun _ _ _ h => h) (Or.inl ⟨by rfl, ?_⟩) (fun h0 => by assumption) ?_
          rotate_left
          · intro wS
            go_simp
            try with_reducible rfl
          try simp only [Act.put, List.setIfInBounds_toArray, List.set_cons_zero, List.set_cons_succ]
          refine wpAnyL_ready (rs := [11]) (by kernel_rfl) (by simp) ?_
          refine AllReadyL.cons rfl (fun K hK => ?_) AllReadyL.nil
          go_simp
          refine hK.out _ _ ?_ (fun hHeld => ?_)
          · exact below_cell ((Below.refl _ _).alloc (Nat.le_refl _) _) hHeld
          clear hK K
          try simp only [Act.put, List.setIfInBounds_toArray, List.set_cons_zero, List.set_cons_succ]
          refine wpAnyL_ready (rs := [12]) (by kernel_rfl) (by simp) ?_
          refine AllReadyL.last rfl (by kernel_rfl) (fun K hK => ?_) AllReadyL.nil
          have HAL := Lib.hid (((QW.refl wr).drew.below wr.heap.size).trans ((Below.refl wr.drew.heap.size wr.drew).alloc (Nat.le_refl _) (.cells #[.int .i64 v] 2)))
          refine step_append_lies _ (by rfl) _ _ 22 (by rfl) (w.heap.size + 2) 2 i0 (.int .i64 0) 1 8 Try.underlying22 hi0 hz0 hz1 hz2 (by rfl) (by decide) (.slice a n c) ((x * 2 + y) * 2 + z) _ (by rfl) (ownsRow_below HO.out HAL.out) _ 1 1 [.int .i64 v] (by rfl) (by rfl) (fun j u hu => World.news_of_block (heap_alloc_new _ _) j u (by simpa using hu)) (by simp [Value.oneCell']) (by omega) (by unfold maxLen; omega) (by omega) (Nat.le_trans hsz HAL.out.size) _ rfl ?_; intro g5 cap5 w6 hown5 hgrow5 hat5 hlt5
          have HBX5 := Lib.hid ((HBX.out.below HAL.out).grown hgrow5 (own_awayC HO.out (w.heap.size + 1) (by omega)))
          have HB05 := Lib.hid ((HB0.out.below HAL.out).grown hgrow5 (own_awayC HO.out w.heap.size (by omega)))
          have HW5 := Lib.hid ((HW.out.trans (HAL.out.mono HW.out.size)).grown hgrow5 (by have := HAL.out.size; have := HW.out.size; omega) (fun g hg => by have := (HO.out.lt g hg).1; omega))
          have HO5 := Lib.hid hown5
          have HS5 := Lib.hid (Nat.le_trans HAL.out.size hgrow5.size)
          have k1 := HBX5.out.c 1 rfl
          have kf := HBX5.out.free 1
          clear hown5 hgrow5 hat5 hlt5 HAL
          refine hK.out _ _ ?_
          clear hK K
          try simp only [Act.put, List.setIfInBounds_toArray, List.set_cons_zero, List.set_cons_succ]
          refine wpAnyL_free (i := 13) (v := ?_) (some 38) rfl rfl (by kernel_rfl) (by kernel_rfl) (by kernel_rfl) (by decide) (fun _ _ _ h => h) (Or.inl ⟨by rfl, ?_⟩) (fun h0 => absurd h0 (by decide)) ?_
          rotate_left
          · intro wS
            go_simp
            try with_reducible rfl
          try simp only [Act.put, List.setIfInBounds_toArray, List.set_cons_zero, List.set_cons_succ]
          refine wpAnyL_ready (rs := [14]) (by kernel_rfl) (by simp) ?_
          refine AllReadyL.last rfl (by kernel_rfl) (fun K hK => ?_) AllReadyL.nil
          go_simp
          refine hK.out _ _ ?_
          clear hK K
          try simp only [Act.put, List.setIfInBounds_toArray, List.set_cons_zero, List.set_cons_succ]
          refine wpAnyL_done (by kernel_rfl) ?_ _
          refine NoPanic.normal ?_
          go_wp2
          go_roundw
          case rel =>
            refine ⟨z + 1, by omega, by go_num, _, _, _, HBX5.out.set 1 _, HB05.out.other (show w.heap.size ≠ w.heap.size + 1 by omega) _, ?_, HW5.out.setCell (p := ⟨w.heap.size + 1, 1, none⟩) (by show w.heap.size ≤ w.heap.size + 1; omega) _, by have := HS5.out; simp [World.setCell]; omega⟩
            rw [show (x * 2 + y) * 2 + (z + 1) = ((x * 2 + y) * 2 + z) + 1 by omega, rowF_succ, HAV.out]
            exact ownsRow_same HO5.out fun g hg => Below.heap_setCell _ _ _ _ (by have := (HO5.out.lt g hg).1; show g ≠ w.heap.size + 1; omega)
          case measure => simp [intOf]; omega


set_option linter.unusedSimpArgs false in
set_option maxRecDepth 100000 in
theorem l07Mod2 (a : Int) (ha : -2 ≤ a ∧ a ≤ 4) (w : World) : Calls Try.prog 160 #[.int .i64 a, .int .i64 2] w fun e w' => e = .returned (.int .i64 ((a + 6) % 2)) ∧ w = w' := by
  obtain rfl | rfl | rfl | rfl | rfl | rfl | rfl : a = -2 ∨ a = -1 ∨ a = 0 ∨ a = 1 ∨ a = 2 ∨ a = 3 ∨ a = 4 := by omega
  all_goals
    go_enter Try.func160, Try.ntmps160
    go_wp2
    go_ret
    exact ⟨by rfl, rfl⟩

set_option linter.unusedSimpArgs false in
set_option maxHeartbeats 2000000 in
set_option maxRecDepth 100000 in
theorem l07Affine2 (w : World) : Calls Try.prog 133 #[.int .i64 2] w (MadeOp w 3 (affL 2)) := by
  have hB := Box.new 32 (w.alloc (.cells #[.int .i64 0, .slice none 0 0] 32)) #[.int .i64 3, .slice none 0 0]
  rw [World.size_alloc] at hB
  have HBX0 := Lib.hid hB
  clear hB
  have HR0 := Lib.hid (Box.new 32 w #[.int .i64 0, .slice none 0 0])
  obtain ⟨i0, hi0, hz0, hz1, hz2⟩ := info_parts info_intT
  go_enter Try.func133, Try.ntmps133
  go_wp2
  go_loopw [4] (fun i wr => ∃ k : Nat, k ≤ 8 ∧ i = .int .i64 k ∧ ∃ (a : Option Addr) (n c : Nat), Box 32 wr (w.heap.size + 1) #[.int .i64 3, .slice a n c] ∧ Box 32 wr w.heap.size #[.int .i64 0, .slice none 0 0] ∧ wr.ownsRow (w.heap.size + 2) 2 1 (.slice a n c) (k) ((rowF (affV 2) (k)).map (Value.int .i64)) ∧ Below w.heap.size w wr ∧ w.heap.size + 2 ≤ wr.heap.size) (fun i _ => 8 - (intOf i).toNat)
  case atStart => exact ⟨0, by omega, rfl, none, 0, 0, HBX0.out, HR0.out.below ((Below.refl _ _).alloc (Nat.le_refl _) _), World.ownsRow_nil _ _ _ 1, ((Below.refl _ _).alloc (Nat.le_refl _) _).alloc (by simp) _, by simp⟩
  case round =>
    obtain ⟨k, hk, rfl, a, n, c, hbx, hb0, hown, hbel, hsz⟩ := hrel
    have HBX := Lib.hid hbx
    have HB0 := Lib.hid hb0
    have HO := Lib.hid hown
    have HW := Lib.hid hbel
    clear hbx hb0 hown hbel
    by_cases hlt : k < 8
    case neg =>
      obtain rfl : k = 8 := by omega
      have hm : n = 8 := by
        rcases ownsRow_parts HO.out with ⟨hv, h0, _⟩ | ⟨_, _, hv, _⟩ <;> simp only [Value.slice.injEq] at hv <;> omega
      subst hm
      have HE : Hid (OwnRow wr (w.heap.size + 2) (.slice a 8 c) (affL 2)) := by
        show World.ownsRow _ _ _ _ _ _ _
        unfold affL
        rw [rowF_len]
        exact HO.out
      have d0 := HBX.out.c 0 rfl
      have d1 := HBX.out.c 1 rfl
      have e0 := HB0.out.c 0 rfl
      have e1 := HB0.out.c 1 rfl
      have f0 := HB0.out.free 0
      have f1 := HB0.out.free 1
      go_wp2
      refine bodyPost_ret (v := .agg #[.int .i64 3, .slice a 8 c]) (by simp [results, Try.results133, go_sem, e0, e1]) rfl ⟨_, _, _, rfl, ?_, ?_⟩
      · exact (((HE.out.stored (by show w.heap.size < w.heap.size + 2; omega) _).stored (by show w.heap.size < w.heap.size + 2; omega) _).mono (by omega)).full
      · exact (HW.out.setCell (Nat.le_refl _) _).setCell (Nat.le_refl _) _
    have hlt' : (k : Int) < 8 := by omega
    go_wp2_with fail
    refine (l01Digits 2 3 k (by omega) (by omega) (by omega) (by omega) _).mono ?_
    rintro e w3 ⟨ad, cd, rfl, hod, hbd⟩
    have hcell : ∀ j, j < 3 → ∃ g, ad = some ⟨g, 0, none⟩ ∧ w3.cell? ⟨g, j, none⟩ = some (.int .i64 (digN 2 3 k j)) := fun j hj => by
      rcases hod.rowIn with ⟨_, h0⟩ | ⟨g, c', hv, _⟩
      · have := congrArg List.length h0; rw [digs_len] at this; simp at this
      · simp only [Value.slice.injEq] at hv
        obtain ⟨rfl, hl, rfl⟩ := hv
        refine ⟨g, rfl, ?_⟩
        rw [hod.cell_of j (by rw [digs_len]; exact hj), digs_at _ _ _ _ hj]
    obtain ⟨g, rfl, r0⟩ := hcell 0 (by omega)
    obtain ⟨g1, e1, r1⟩ := hcell 1 (by omega)
    obtain ⟨g2, e2, r2⟩ := hcell 2 (by omega)
    simp only [Option.some.injEq, Addr.mk.injEq, and_true] at e1 e2
    subst e1 e2
    clear hcell hod
    have HBD := Lib.hid hbd
    obtain ⟨x, hx⟩ : ∃ x : Int, (digN 2 3 k 0 : Int) = x := ⟨_, rfl⟩
    obtain ⟨y, hy⟩ : ∃ y : Int, (digN 2 3 k 1 : Int) = y := ⟨_, rfl⟩
    obtain ⟨z, hz⟩ : ∃ z : Int, (digN 2 3 k 2 : Int) = z := ⟨_, rfl⟩
    obtain ⟨v, hv⟩ : ∃ v, affV 2 k = v := ⟨_, rfl⟩
    have HV : Hid ((x - y + z + 6) % 2 = v) := Lib.hid (by rw [← hv, ← hx, ← hy, ← hz]; rfl)
    have HAV := Lib.hid hv
    have hxb : 0 ≤ x ∧ x < 2 := by rw [← hx]; unfold digN; omega
    have hyb : 0 ≤ y ∧ y < 2 := by rw [← hy]; unfold digN; omega
    have hzb : 0 ≤ z ∧ z < 2 := by rw [← hz]; unfold digN; omega
    rw [hx] at r0
    rw [hy] at r1
    rw [hz] at r2
    have HXB : Hid (-2 ≤ x - y + z ∧ x - y + z ≤ 4) := Lib.hid (by omega)
    have b1 : IntKind.i64.wrap (x - y) = x - y := IntWalk.i64_in _ (by omega)
    have b2 : IntKind.i64.wrap (x - y + z) = x - y + z := IntWalk.i64_in _ (by omega)
    have d1 := below_cell hbd (HBX.out.c 1 rfl)
    clear hx hy hz hv hbd hxb hyb hzb
    go_wp2
    refine wp_region_noPanic ?_
    refine wp_region_late (S := (fun w' => w'.cell? ⟨w.heap.size + 1, 1, none⟩ = some (.slice a n c) ∧ w'.cell? ⟨g, 0, none⟩ = some (.int .i64 x) ∧ w'.cell? ⟨g, 1, none⟩ = some (.int .i64 y) ∧ w'.cell? ⟨g, 2, none⟩ = some (.int .i64 z) ∧ Below wr.heap.size wr w')) [16, 18] (by kernel_rfl) ?_ (fun hHeld => ?_)
    · exact ⟨d1, r0, r1, r2, HBD.out.trans (((QW.refl _).drew.below _).mono HBD.out.size)⟩
    refine wpAnyL_free (i := 0) (v := ?_) (some 19) rfl rfl (by kernel_rfl) (by kernel_rfl) (by kernel_rfl) (by decide) (fun _ _ _ h => h) (Or.inl ⟨by rfl, ?_⟩) (fun h0 => by assumption) ?_
    rotate_left
    · intro wS
      go_simp
      try with_reducible rfl
    try simp only [Act.put, List.setIfInBounds_toArray, List.set_cons_zero, List.set_cons_succ]
    refine wpAnyL_take (i := 1) (v := ?_) (some 20) rfl rfl (by kernel_rfl) (by kernel_rfl) (by kernel_rfl) (by kernel_rfl) (by kernel_rfl) (fun _ _ _ h => h) (Or.inl ⟨by rfl, ?_⟩) (by assumption) ?_
    rotate_left
    · intro wS hSw
      try dsimp only at hSw
      go_simp
      try with_reducible rfl
    try simp only [Act.put, List.setIfInBounds_toArray, List.set_cons_zero, List.set_cons_succ]
    refine wpAnyL_free (i := 2) (v := ?_) (some 21) rfl rfl (by kernel_rfl) (by kernel_rfl) (by kernel_rfl) (by decide) (fun _ _ _ h => h) (Or.inl ⟨by rfl, ?_⟩) (fun h0 => by assumption) ?_
    rotate_left
    · intro wS
      go_simp
      try with_reducible rfl
    try simp only [Act.put, List.setIfInBounds_toArray, List.set_cons_zero, List.set_cons_succ]
    refine wpAnyL_free (i := 3) (v := ?_) (some 22) rfl rfl (by kernel_rfl) (by kernel_rfl) (by kernel_rfl) (by decide) (fun _ _ _ h => h) (Or.inl ⟨by rfl, ?_⟩) (fun h0 => by assumption) ?_
    rotate_left
    · intro wS
      go_simp
      try with_reducible rfl
    try simp only [Act.put, List.setIfInBounds_toArray, List.set_cons_zero, List.set_cons_succ]
    refine wpAnyL_take (i := 4) (v := ?_) (some 23) rfl rfl (by kernel_rfl) (by kernel_rfl) (by kernel_rfl) (by kernel_rfl) (by kernel_rfl) (fun _ _ _ h => h) (Or.inl ⟨by rfl, ?_⟩) (by assumption) ?_
    rotate_left
    · intro wS hSw
      try dsimp only at hSw
      go_simp
      try with_reducible rfl
    try simp only [Act.put, List.setIfInBounds_toArray, List.set_cons_zero, List.set_cons_succ]
    refine wpAnyL_free (i := 5) (v := ?_) (some 24) rfl rfl (by kernel_rfl) (by kernel_rfl) (by kernel_rfl) (by decide) (fun _ _ _ h => h) (Or.inl ⟨by rfl, ?_⟩) (fun h0 => by assumption) ?_
    rotate_left
    · intro wS
      go_simp
      try with_reducible rfl
    try simp only [Act.put, List.setIfInBounds_toArray, List.set_cons_zero, List.set_cons_succ]
    refine wpAnyL_free (i := 6) (v := ?_) (some 25) rfl rfl (by kernel_rfl) (by kernel_rfl) (by kernel_rfl) (by decide) (fun _ _ _ h => h) (Or.inl ⟨by rfl, ?_⟩) (fun h0 => by assumption) ?_
    rotate_left
    · intro wS
      go_simp
      try with_reducible rfl
    try simp only [Act.put, List.setIfInBounds_toArray, List.set_cons_zero, List.set_cons_succ]
    refine wpAnyL_take (i := 7) (v := ?_) (some 26) rfl rfl (by kernel_rfl) (by kernel_rfl) (by kernel_rfl) (by kernel_rfl) (by kernel_rfl) (fun _ _ _ h => h) (Or.inl ⟨by rfl, ?_⟩) (by assumption) ?_
    rotate_left
    · intro wS hSw
      try dsimp only at hSw
      go_simp
      try with_reducible rfl
    try simp only [Act.put, List.setIfInBounds_toArray, List.set_cons_zero, List.set_cons_succ]
    refine wpAnyL_free (i := 8) (v := ?_) (some 27) rfl rfl (by kernel_rfl) (by kernel_rfl) (by kernel_rfl) (by decide) (fun _ _ _ h => h) (Or.inl ⟨by rfl, ?_⟩) (fun h0 => by assumption) ?_
    rotate_left
    · intro wS
      go_simp
      try with_reducible rfl
    try simp only [Act.put, List.setIfInBounds_toArray, List.set_cons_zero, List.set_cons_succ]
    refine wpAnyL_free (i := 9) (v := ?_) (some 28) rfl rfl (by kernel_rfl) (by kernel_rfl) (by kernel_rfl) (by decide) (fun _ _ _ h => h) (Or.inl ⟨by rfl, ?_⟩) (fun h0 => by assumption) ?_
    rotate_left
    · intro wS
      go_simp
      try with_reducible rfl
    try simp only [Act.put, List.setIfInBounds_toArray, List.set_cons_zero, List.set_cons_succ]
    refine wpAnyL_free (i := 10) (v := ?_) (some 29) rfl rfl (by kernel_rfl) (by kernel_rfl) (by kernel_rfl) (by decide) (fun _ _ _ h => h) (Or.inl ⟨by rfl, ?_⟩) (fun h0 => by assumption) ?_
    rotate_left
    · intro wS
      go_simp
      try with_reducible rfl
    try simp only [Act.put, List.setIfInBounds_toArray, List.set_cons_zero, List.set_cons_succ]
    refine wpAnyL_take (i := 11) (v := ?_) (some 30) rfl rfl (by kernel_rfl) (by kernel_rfl) (by kernel_rfl) (by kernel_rfl) (by kernel_rfl) (fun _ _ _ h => h) (Or.inl ⟨by rfl, ?_⟩) (by assumption) ?_
    rotate_left
    · intro wS hSw
      try dsimp only at hSw
      go_simp
      try with_reducible rfl
    try simp only [Act.put, List.setIfInBounds_toArray, List.set_cons_zero, List.set_cons_succ]
    refine wpAnyL_free (i := 12) (v := ?_) (some 31) rfl rfl (by kernel_rfl) (by kernel_rfl) (by kernel_rfl) (by decide) (fun _ _ _ h => h) (Or.inl ⟨by rfl, ?_⟩) (fun h0 => by assumption) ?_
    rotate_left
    · intro wS
      go_simp
      try with_reducible rfl
    try simp only [Act.put, List.setIfInBounds_toArray, List.set_cons_zero, List.set_cons_succ]
    refine wpAnyL_free (i := 13) (v := ?_) (some 32) rfl rfl (by kernel_rfl) (by kernel_rfl) (by kernel_rfl) (by decide) (fun _ _ _ h => h) (Or.inl ⟨by rfl, ?_⟩) (fun h0 => by assumption) ?_
    rotate_left
    · intro wS
      go_simp
      try with_reducible rfl
    try simp only [Act.put, List.setIfInBounds_toArray, List.set_cons_zero, List.set_cons_succ]
    refine wpAnyL_ready (rs := [14]) (by kernel_rfl) (by simp) ?_
    refine AllReadyL.cons rfl (fun K hK => ?_) AllReadyL.nil
    go_simp; go_at_call 160; refine (l07Mod2 _ HXB.out _).mono ?_; rintro e w4 ⟨rfl, rfl⟩
    rw [HV.out]
    refine hK.out _ _ ?_ (fun hHeld => ?_)
    · exact hHeld
    clear hK K
    try simp only [Act.put, List.setIfInBounds_toArray, List.set_cons_zero, List.set_cons_succ]
    refine wpAnyL_ready (rs := [15]) (by kernel_rfl) (by simp) ?_
    refine AllReadyL.cons rfl (fun K hK => ?_) AllReadyL.nil
    go_simp
    refine hK.out _ _ ?_ (fun hHeld => ?_)
    · exact ⟨below_cell ((Below.refl _ _).alloc (Nat.le_refl _) _) hHeld.1, below_cell ((Below.refl _ _).alloc (Nat.le_refl _) _) hHeld.2.1, below_cell ((Below.refl _ _).alloc (Nat.le_refl _) _) hHeld.2.2.1, below_cell ((Below.refl _ _).alloc (Nat.le_refl _) _) hHeld.2.2.2.1, hHeld.2.2.2.2.trans (((Below.refl _ _).alloc (Nat.le_refl _) _).mono hHeld.2.2.2.2.size)⟩
    clear hK K
    try simp only [Act.put, List.setIfInBounds_toArray, List.set_cons_zero, List.set_cons_succ]
    refine wpAnyL_ready (rs := [16]) (by kernel_rfl) (by simp) ?_
    refine AllReadyL.last rfl (by kernel_rfl) (fun K hK => ?_) AllReadyL.nil
    have HAL := Lib.hid (hHeld.2.2.2.2)
    refine step_append_lies _ (by rfl) _ _ 22 (by rfl) (w.heap.size + 2) 2 i0 (.int .i64 0) 1 8 Try.underlying22 hi0 hz0 hz1 hz2 (by rfl) (by decide) (.slice a n c) (k) _ (by rfl) (ownsRow_below HO.out HAL.out) _ 1 1 [.int .i64 v] (by rfl) (by rfl) (fun j u hu => World.news_of_block (heap_alloc_new _ _) j u (by simpa using hu)) (by simp [Value.oneCell']) (by omega) (by unfold maxLen; omega) (by omega) (Nat.le_trans hsz HAL.out.size) _ rfl ?_; intro g5 cap5 w6 hown5 hgrow5 hat5 hlt5
    have HBX5 := Lib.hid ((HBX.out.below HAL.out).grown hgrow5 (own_awayC HO.out (w.heap.size + 1) (by omega)))
    have HB05 := Lib.hid ((HB0.out.below HAL.out).grown hgrow5 (own_awayC HO.out w.heap.size (by omega)))
    have HW5 := Lib.hid ((HW.out.trans (HAL.out.mono HW.out.size)).grown hgrow5 (by have := HAL.out.size; have := HW.out.size; omega) (fun g hg => by have := (HO.out.lt g hg).1; omega))
    have HO5 := Lib.hid hown5
    have HS5 := Lib.hid (Nat.le_trans HAL.out.size hgrow5.size)
    have k1 := HBX5.out.c 1 rfl
    have kf := HBX5.out.free 1
    clear hown5 hgrow5 hat5 hlt5 HAL
    refine hK.out _ _ ?_
    clear hK K
    try simp only [Act.put, List.setIfInBounds_toArray, List.set_cons_zero, List.set_cons_succ]
    refine wpAnyL_free (i := 17) (v := ?_) (some 36) rfl rfl (by kernel_rfl) (by kernel_rfl) (by kernel_rfl) (by decide) (fun _ _ _ h => h) (Or.inl ⟨by rfl, ?_⟩) (fun h0 => absurd h0 (by decide)) ?_
    rotate_left
    · intro wS
      go_simp
      try with_reducible rfl
    try simp only [Act.put, List.setIfInBounds_toArray, List.set_cons_zero, List.set_cons_succ]
    refine wpAnyL_ready (rs := [18]) (by kernel_rfl) (by simp) ?_
    refine AllReadyL.last rfl (by kernel_rfl) (fun K hK => ?_) AllReadyL.nil
    go_simp
    refine hK.out _ _ ?_
    clear hK K
    try simp only [Act.put, List.setIfInBounds_toArray, List.set_cons_zero, List.set_cons_succ]
    refine wpAnyL_done (by kernel_rfl) ?_ _
    refine NoPanic.normal ?_
    go_wp2
    go_roundw
    case rel =>
      refine ⟨k + 1, by omega, by go_num, _, _, _, HBX5.out.set 1 _, HB05.out.other (show w.heap.size ≠ w.heap.size + 1 by omega) _, ?_, HW5.out.setCell (p := ⟨w.heap.size + 1, 1, none⟩) (by show w.heap.size ≤ w.heap.size + 1; omega) _, by have := HS5.out; simp [World.setCell]; omega⟩
      rw [show k + 1 = k + 1 from rfl, rowF_succ, HAV.out]
      exact ownsRow_same HO5.out fun g hg => Below.heap_setCell _ _ _ _ (by have := (HO5.out.lt g hg).1; show g ≠ w.heap.size + 1; omega)
    case measure => simp [intOf]; omega

set_option linter.unusedSimpArgs false in
set_option maxHeartbeats 2000000 in
set_option maxRecDepth 100000 in
theorem implAffine3 (w : World) : Calls Try.prog 83 #[.int .i64 3] w (MadeOp2 w 3 (affL 3) 0) := by
  have hB := Box.new 32 (w.alloc (.cells #[.int .i64 0, .slice none 0 0] 32)) #[.int .i64 3, .slice none 0 0]
  rw [World.size_alloc] at hB
  have HBX0 := Lib.hid hB
  clear hB
  have HR0 := Lib.hid (Box.new 32 w #[.int .i64 0, .slice none 0 0])
  obtain ⟨i0, hi0, hz0, hz1, hz2⟩ := info_parts info_intT
  go_enter Try.func83, Try.ntmps83
  go_wp2_with fail
  refine (isPrimeC 3 true _ (Tells.yes (by decide))).mono ?_
  rintro e w1 ⟨rfl, rfl⟩
  go_wp2
  go_loopw [14] (fun i wr => ∃ x : Nat, x ≤ 3 ∧ i = .int .i64 x ∧ ∃ (a : Option Addr) (n c : Nat), Box 32 wr (w.heap.size + 1) #[.int .i64 3, .slice a n c] ∧ Box 32 wr w.heap.size #[.int .i64 0, .slice none 0 0] ∧ wr.ownsRow (w.heap.size + 2) 2 1 (.slice a n c) (x * 3 * 3) ((rowF (affV 3) (x * 3 * 3)).map (Value.int .i64)) ∧ Below w.heap.size w wr ∧ w.heap.size + 2 ≤ wr.heap.size) (fun i _ => 3 - (intOf i).toNat)
  case atStart => exact ⟨0, by omega, rfl, none, 0, 0, HBX0.out, HR0.out.below ((Below.refl _ _).alloc (Nat.le_refl _) _), World.ownsRow_nil _ _ _ 1, ((Below.refl _ _).alloc (Nat.le_refl _) _).alloc (by simp) _, by simp⟩
  case round =>
    obtain ⟨x, hx, rfl, hinv⟩ := hrel
    have HI := Lib.hid hinv
    clear hinv
    by_cases hxl : x < 3
    case neg =>
      obtain rfl : x = 3 := by omega
      obtain ⟨a, n, c, hbx, hb0, hown, hbel, hsz⟩ := HI.out
      have HBX := Lib.hid hbx
      have HB0 := Lib.hid hb0
      have HO := Lib.hid hown
      have HW := Lib.hid hbel
      clear hbx hb0 hown hbel
      have hm : n = 27 := by
        rcases ownsRow_parts HO.out with ⟨hv, h0, _⟩ | ⟨_, _, hv, _⟩ <;> simp only [Value.slice.injEq] at hv <;> omega
      subst hm
      have HE : Hid (OwnRow wr (w.heap.size + 2) (.slice a 27 c) (affL 3)) := by
        show World.ownsRow _ _ _ _ _ _ _
        unfold affL
        rw [rowF_len]
        exact HO.out
      have d0 := HBX.out.c 0 rfl
      have d1 := HBX.out.c 1 rfl
      have e0 := HB0.out.c 0 rfl
      have e1 := HB0.out.c 1 rfl
      have f0 := HB0.out.free 0
      have f1 := HB0.out.free 1
      go_wp2
      refine bodyPost_ret (v := .tuple #[.agg #[.int .i64 3, .slice a 27 c], .int .i64 0]) (by simp [results, Try.results83, go_sem, e0, e1]) rfl ⟨_, _, _, rfl, ?_, ?_⟩
      · exact (((HE.out.stored (by show w.heap.size < w.heap.size + 2; omega) _).stored (by show w.heap.size < w.heap.size + 2; omega) _).mono (by omega)).full
      · exact (HW.out.setCell (Nat.le_refl _) _).setCell (Nat.le_refl _) _
    have hx' : (x : Int) < 3 := by omega
    go_wp2
    go_loopw [18] (fun i wr => ∃ y : Nat, y ≤ 3 ∧ i = .int .i64 y ∧ ∃ (a : Option Addr) (n c : Nat), Box 32 wr (w.heap.size + 1) #[.int .i64 3, .slice a n c] ∧ Box 32 wr w.heap.size #[.int .i64 0, .slice none 0 0] ∧ wr.ownsRow (w.heap.size + 2) 2 1 (.slice a n c) ((x * 3 + y) * 3) ((rowF (affV 3) ((x * 3 + y) * 3)).map (Value.int .i64)) ∧ Below w.heap.size w wr ∧ w.heap.size + 2 ≤ wr.heap.size) (fun i _ => 3 - (intOf i).toNat)
    case atStart => exact ⟨0, by omega, rfl, HI.out⟩
    case round =>
      obtain ⟨y, hy, rfl, hinv⟩ := hrel
      have HI2 := Lib.hid hinv
      clear hinv
      by_cases hyl : y < 3
      case neg =>
        obtain rfl : y = 3 := by omega
        go_wp2
        go_roundw
        case rel => exact ⟨x + 1, by omega, by go_num, by rw [show (x + 1) * 3 * 3 = (x * 3 + 3) * 3 by omega]; exact HI2.out⟩
        case measure => simp [intOf]; omega
      have hy' : (y : Int) < 3 := by omega
      go_wp2
      go_loopw [22] (fun i wr => ∃ z : Nat, z ≤ 3 ∧ i = .int .i64 z ∧ ∃ (a : Option Addr) (n c : Nat), Box 32 wr (w.heap.size + 1) #[.int .i64 3, .slice a n c] ∧ Box 32 wr w.heap.size #[.int .i64 0, .slice none 0 0] ∧ wr.ownsRow (w.heap.size + 2) 2 1 (.slice a n c) ((x * 3 + y) * 3 + z) ((rowF (affV 3) ((x * 3 + y) * 3 + z)).map (Value.int .i64)) ∧ Below w.heap.size w wr ∧ w.heap.size + 2 ≤ wr.heap.size) (fun i _ => 3 - (intOf i).toNat)
      case atStart => exact ⟨0, by omega, rfl, HI2.out⟩
      case round =>
        obtain ⟨z, hz, rfl, a, n, c, hbx, hb0, hown, hbel, hsz⟩ := hrel
        have HBX := Lib.hid hbx
        have HB0 := Lib.hid hb0
        have HO := Lib.hid hown
        have HW := Lib.hid hbel
        clear hbx hb0 hown hbel
        by_cases hzl : z < 3
        case neg =>
          obtain rfl : z = 3 := by omega
          go_wp2
          go_roundw
          case rel => exact ⟨y + 1, by omega, by go_num, a, n, c, HBX.out, HB0.out, by rw [show (x * 3 + (y + 1)) * 3 = (x * 3 + y) * 3 + 3 by omega]; exact HO.out, HW.out, hsz⟩
          case measure => simp [intOf]; omega
        case pos =>
          have hz' : (z : Int) < 3 := by omega
          have b1 : IntKind.i64.wrap ((x : Int) - (y : Int)) = (x : Int) - (y : Int) := IntWalk.i64_in _ (by omega)
          have b2 : IntKind.i64.wrap ((x : Int) - (y : Int) + (z : Int)) = (x : Int) - (y : Int) + (z : Int) := IntWalk.i64_in _ (by omega)
          have b3 : IntKind.i64.wrap ((x : Int) - (y : Int) + (z : Int) + 3) = (x : Int) - (y : Int) + (z : Int) + 3 := IntWalk.i64_in _ (by omega)
          obtain ⟨v, hv⟩ : ∃ v, affV 3 ((x * 3 + y) * 3 + z) = v := ⟨_, rfl⟩
          have b4 : Int.tmod ((x : Int) - (y : Int) + (z : Int) + 3) 3 = v := by
            rw [← hv, Int.tmod_eq_emod_of_nonneg (by omega)]
            have g0 : digN 3 3 ((x * 3 + y) * 3 + z) 0 = ((x * 3 + y) * 3 + z) / 9 % 3 := rfl
            have g1 : digN 3 3 ((x * 3 + y) * 3 + z) 1 = ((x * 3 + y) * 3 + z) / 3 % 3 := rfl
            have g2 : digN 3 3 ((x * 3 + y) * 3 + z) 2 = ((x * 3 + y) * 3 + z) / 1 % 3 := rfl
            have j0 : ((x * 3 + y) * 3 + z) / 9 % 3 = x := by clear b1 b2 b3; omega
            have j1 : ((x * 3 + y) * 3 + z) / 3 % 3 = y := by clear b1 b2 b3; omega
            have j2 : ((x * 3 + y) * 3 + z) / 1 % 3 = z := by clear b1 b2 b3; omega
            unfold affV
            rw [g0, g1, g2, j0, j1, j2]
            clear b1 b2 b3 g0 g1 g2 j0 j1 j2
            omega
          have HAV := Lib.hid hv
          clear hv
          have d1 := HBX.out.c 1 rfl
          go_wp2
          refine wp_region_noPanic ?_
          refine wp_region_late (S := (fun w' => w'.cell? ⟨w.heap.size + 1, 1, none⟩ = some (.slice a n c))) [12, 14] (by kernel_rfl) ?_ (fun hHeld => ?_)
          · exact d1
          refine wpAnyL_free (i := 0) (v := ?_) (some 25) rfl rfl (by kernel_rfl) (by kernel_rfl) (by kernel_rfl) (by decide) (fun _ _ _ h => h) (Or.inl ⟨by rfl, ?_⟩) (fun h0 => by assumption) ?_
          rotate_left
          · intro wS
            go_simp
            try with_reducible rfl
          try simp only [Act.put, List.setIfInBounds_toArray, List.set_cons_zero, List.set_cons_succ]
          refine wpAnyL_take (i := 1) (v := ?_) (some 26) rfl rfl (by kernel_rfl) (by kernel_rfl) (by kernel_rfl) (by kernel_rfl) (by kernel_rfl) (fun _ _ _ h => h) (Or.inl ⟨by rfl, ?_⟩) (by assumption) ?_
          rotate_left
          · intro wS hSw
            try dsimp only at hSw
            go_simp
            try with_reducible rfl
          try simp only [Act.put, List.setIfInBounds_toArray, List.set_cons_zero, List.set_cons_succ]
          refine wpAnyL_free (i := 2) (v := ?_) (some 27) rfl rfl (by kernel_rfl) (by kernel_rfl) (by kernel_rfl) (by decide) (fun _ _ _ h => h) (Or.inl ⟨by rfl, ?_⟩) (fun h0 => by assumption) ?_
          rotate_left
          · intro wS
            go_simp
            try with_reducible rfl
          try simp only [Act.put, List.setIfInBounds_toArray, List.set_cons_zero, List.set_cons_succ]
          refine wpAnyL_free (i := 3) (v := ?_) (some 28) rfl rfl (by kernel_rfl) (by kernel_rfl) (by kernel_rfl) (by decide) (fun _ _ _ h => h) (Or.inl ⟨by rfl, ?_⟩) (fun h0 => by assumption) ?_
          rotate_left
          · intro wS
            go_simp
            try with_reducible rfl
          try simp only [Act.put, List.setIfInBounds_toArray, List.set_cons_zero, List.set_cons_succ]
          refine wpAnyL_free (i := 4) (v := ?_) (some 29) rfl rfl (by kernel_rfl) (by kernel_rfl) (by kernel_rfl) (by decide) (fun _ _ _ h => h) (Or.inl ⟨by rfl, ?_⟩) (fun h0 => by assumption) ?_
          rotate_left
          · intro wS
            go_simp
            try with_reducible rfl
          try simp only [Act.put, List.setIfInBounds_toArray, List.set_cons_zero, List.set_cons_succ]
          refine wpAnyL_free (i := 5) (v := ?_) (some 30) rfl rfl (by kernel_rfl) (by kernel_rfl) (by kernel_rfl) (by decide) (fun _ _ _ h => h) (Or.inl ⟨by rfl, ?_⟩) (fun h0 => by assumption) ?_
          rotate_left
          · intro wS
            go_simp
            try with_reducible rfl
          try simp only [Act.put, List.setIfInBounds_toArray, List.set_cons_zero, List.set_cons_succ]
          refine wpAnyL_free (i := 6) (v := ?_) (some 31) rfl rfl (by kernel_rfl) (by kernel_rfl) (by kernel_rfl) (by decide) (fun _ _ _ h => h) (Or.inl ⟨by rfl, ?_⟩) (fun h0 => by assumption) ?_
          rotate_left
          · intro wS
            go_simp
            try with_reducible rfl
          try simp only [Act.put, List.setIfInBounds_toArray, List.set_cons_zero, List.set_cons_succ]
          refine wpAnyL_free (i := 7) (v := ?_) (some 32) rfl rfl (by kernel_rfl) (by kernel_rfl) (by kernel_rfl) (by decide) (fun _ _ _ h => h) (Or.inl ⟨by rfl, ?_⟩) (fun h0 => by assumption) ?_
          rotate_left
          · intro wS
            go_simp
            try with_reducible rfl
          try simp only [Act.put, List.setIfInBounds_toArray, List.set_cons_zero, List.set_cons_succ]
          refine wpAnyL_free (i := 8) (v := ?_) (some 33) rfl rfl (by kernel_rfl) (by kernel_rfl) (by kernel_rfl) (by decide) (fun _ _ _ h => h) (Or.inl ⟨by rfl, ?_⟩) (fun h0 => by assumption) ?_
          rotate_left
          · intro wS
            go_simp
            try with_reducible rfl
          try simp only [Act.put, List.setIfInBounds_toArray, List.set_cons_zero, List.set_cons_succ]
          refine wpAnyL_free (i := 9) (v := ?_) (some 34) rfl rfl (by kernel_rfl) (by kernel_rfl) (by kernel_rfl) (by decide) (fun _ _ _ h => h) (Or.inl ⟨by rfl, ?_⟩) (fun h0 => by assumption) ?_
          rotate_left
          · intro wS
            go_simp
            try with_reducible rfl
          try simp only [Act.put, List.setIfInBounds_toArray, List.set_cons_zero, List.set_cons_succ]
          refine wpAnyL_free (i := 10) (v := ?_) (some 35) rfl rfl (by kernel_rfl) (by kernel_rfl) (by kernel_rfl) (by decide) (fun _ _ _ h => h) (Or.inl ⟨by rfl, ?_⟩) (fun h0 => by assumption) ?_
          rotate_left
          · intro wS
            go_simp
            try with_reducible rfl
          try simp only [Act.put, List.setIfInBounds_toArray, List.set_cons_zero, List.set_cons_succ]
          refine wpAnyL_ready (rs := [11]) (by kernel_rfl) (by simp) ?_
          refine AllReadyL.cons rfl (fun K hK => ?_) AllReadyL.nil
          go_simp
          refine hK.out _ _ ?_ (fun hHeld => ?_)
          · exact below_cell ((Below.refl _ _).alloc (Nat.le_refl _) _) hHeld
          clear hK K
          try simp only [Act.put, List.setIfInBounds_toArray, List.set_cons_zero, List.set_cons_succ]
          refine wpAnyL_ready (rs := [12]) (by kernel_rfl) (by simp) ?_
          refine AllReadyL.last rfl (by kernel_rfl) (fun K hK => ?_) AllReadyL.nil
          have HAL := Lib.hid (((QW.refl wr).drew.below wr.heap.size).trans ((Below.refl wr.drew.heap.size wr.drew).alloc (Nat.le_refl _) (.cells #[.int .i64 v] 2)))
          refine step_append_lies _ (by rfl) _ _ 22 (by rfl) (w.heap.size + 2) 2 i0 (.int .i64 0) 1 8 Try.underlying22 hi0 hz0 hz1 hz2 (by rfl) (by decide) (.slice a n c) ((x * 3 + y) * 3 + z) _ (by rfl) (ownsRow_below HO.out HAL.out) _ 1 1 [.int .i64 v] (by rfl) (by rfl) (fun j u hu => World.news_of_block (heap_alloc_new _ _) j u (by simpa using hu)) (by simp [Value.oneCell']) (by omega) (by unfold maxLen; omega) (by omega) (Nat.le_trans hsz HAL.out.size) _ rfl ?_; intro g5 cap5 w6 hown5 hgrow5 hat5 hlt5
          have HBX5 := Lib.hid ((HBX.out.below HAL.out).grown hgrow5 (own_awayC HO.out (w.heap.size + 1) (by omega)))
          have HB05 := Lib.hid ((HB0.out.below HAL.out).grown hgrow5 (own_awayC HO.out w.heap.size (by omega)))
          have HW5 := Lib.hid ((HW.out.trans (HAL.out.mono HW.out.size)).grown hgrow5 (by have := HAL.out.size; have := HW.out.size; omega) (fun g hg => by have := (HO.out.lt g hg).1; omega))
          have HO5 := Lib.hid hown5
          have HS5 := Lib.hid (Nat.le_trans HAL.out.size hgrow5.size)
          have k1 := HBX5.out.c 1 rfl
          have kf := HBX5.out.free 1
          clear hown5 hgrow5 hat5 hlt5 HAL
          refine hK.out _ _ ?_
          clear hK K
          try simp only [Act.put, List.setIfInBounds_toArray, List.set_cons_zero, List.set_cons_succ]
          refine wpAnyL_free (i := 13) (v := ?_) (some 38) rfl rfl (by kernel_rfl) (by kernel_rfl) (by kernel_rfl) (by decide) (fun _ _ _ h => h) (Or.inl ⟨by rfl, ?_⟩) (fun h0 => absurd h0 (by decide)) ?_
          rotate_left
          · intro wS
            go_simp
            try with_reducible rfl
          try simp only [Act.put, List.setIfInBounds_toArray, List.set_cons_zero, List.set_cons_succ]
          refine wpAnyL_ready (rs := [14]) (by kernel_rfl) (by simp) ?_
          refine AllReadyL.last rfl (by kernel_rfl) (fun K hK => ?_) AllReadyL.nil
          go_simp
          refine hK.out _ _ ?_
          clear hK K
          try simp only [Act.put, List.setIfInBounds_toArray, List.set_cons_zero, List.set_cons_succ]
          refine wpAnyL_done (by kernel_rfl) ?_ _
          refine NoPanic.normal ?_
          go_wp2
          go_roundw
          case rel =>
            refine ⟨z + 1, by omega, by go_num, _, _, _, HBX5.out.set 1 _, HB05.out.other (show w.heap.size ≠ w.heap.size + 1 by omega) _, ?_, HW5.out.setCell (p := ⟨w.heap.size + 1, 1, none⟩) (by show w.heap.size ≤ w.heap.size + 1; omega) _, by have := HS5.out; simp [World.setCell]; omega⟩
            rw [show (x * 3 + y) * 3 + (z + 1) = ((x * 3 + y) * 3 + z) + 1 by omega, rowF_succ, HAV.out]
            exact ownsRow_same HO5.out fun g hg => Below.heap_setCell _ _ _ _ (by have := (HO5.out.lt g hg).1; show g ≠ w.heap.size + 1; omega)
          case measure => simp [intOf]; omega


set_option linter.unusedSimpArgs false in
set_option maxRecDepth 100000 in
theorem l07Mod3 (a : Int) (ha : -2 ≤ a ∧ a ≤ 4) (w : World) : Calls Try.prog 160 #[.int .i64 a, .int .i64 3] w fun e w' => e = .returned (.int .i64 ((a + 6) % 3)) ∧ w = w' := by
  obtain rfl | rfl | rfl | rfl | rfl | rfl | rfl : a = -2 ∨ a = -1 ∨ a = 0 ∨ a = 1 ∨ a = 2 ∨ a = 3 ∨ a = 4 := by omega
  all_goals
    go_enter Try.func160, Try.ntmps160
    go_wp2
    go_ret
    exact ⟨by rfl, rfl⟩

set_option linter.unusedSimpArgs false in
set_option maxHeartbeats 2000000 in
set_option maxRecDepth 100000 in
theorem l07Affine3 (w : World) : Calls Try.prog 133 #[.int .i64 3] w (MadeOp w 3 (affL 3)) := by
  have hB := Box.new 32 (w.alloc (.cells #[.int .i64 0, .slice none 0 0] 32)) #[.int .i64 3, .slice none 0 0]
  rw [World.size_alloc] at hB
  have HBX0 := Lib.hid hB
  clear hB
  have HR0 := Lib.hid (Box.new 32 w #[.int .i64 0, .slice none 0 0])
  obtain ⟨i0, hi0, hz0, hz1, hz2⟩ := info_parts info_intT
  go_enter Try.func133, Try.ntmps133
  go_wp2
  go_loopw [4] (fun i wr => ∃ k : Nat, k ≤ 27 ∧ i = .int .i64 k ∧ ∃ (a : Option Addr) (n c : Nat), Box 32 wr (w.heap.size + 1) #[.int .i64 3, .slice a n c] ∧ Box 32 wr w.heap.size #[.int .i64 0, .slice none 0 0] ∧ wr.ownsRow (w.heap.size + 2) 2 1 (.slice a n c) (k) ((rowF (affV 3) (k)).map (Value.int .i64)) ∧ Below w.heap.size w wr ∧ w.heap.size + 2 ≤ wr.heap.size) (fun i _ => 27 - (intOf i).toNat)
  case atStart => exact ⟨0, by omega, rfl, none, 0, 0, HBX0.out, HR0.out.below ((Below.refl _ _).alloc (Nat.le_refl _) _), World.ownsRow_nil _ _ _ 1, ((Below.refl _ _).alloc (Nat.le_refl _) _).alloc (by simp) _, by simp⟩
  case round =>
    obtain ⟨k, hk, rfl, a, n, c, hbx, hb0, hown, hbel, hsz⟩ := hrel
    have HBX := Lib.hid hbx
    have HB0 := Lib.hid hb0
    have HO := Lib.hid hown
    have HW := Lib.hid hbel
    clear hbx hb0 hown hbel
    by_cases hlt : k < 27
    case neg =>
      obtain rfl : k = 27 := by omega
      have hm : n = 27 := by
        rcases ownsRow_parts HO.out with ⟨hv, h0, _⟩ | ⟨_, _, hv, _⟩ <;> simp only [Value.slice.injEq] at hv <;> omega
      subst hm
      have HE : Hid (OwnRow wr (w.heap.size + 2) (.slice a 27 c) (affL 3)) := by
        show World.ownsRow _ _ _ _ _ _ _
        unfold affL
        rw [rowF_len]
        exact HO.out
      have d0 := HBX.out.c 0 rfl
      have d1 := HBX.out.c 1 rfl
      have e0 := HB0.out.c 0 rfl
      have e1 := HB0.out.c 1 rfl
      have f0 := HB0.out.free 0
      have f1 := HB0.out.free 1
      go_wp2
      refine bodyPost_ret (v := .agg #[.int .i64 3, .slice a 27 c]) (by simp [results, Try.results133, go_sem, e0, e1]) rfl ⟨_, _, _, rfl, ?_, ?_⟩
      · exact (((HE.out.stored (by show w.heap.size < w.heap.size + 2; omega) _).stored (by show w.heap.size < w.heap.size + 2; omega) _).mono (by omega)).full
      · exact (HW.out.setCell (Nat.le_refl _) _).setCell (Nat.le_refl _) _
    have hlt' : (k : Int) < 27 := by omega
    go_wp2_with fail
    refine (l01Digits 3 3 k (by omega) (by omega) (by omega) (by omega) _).mono ?_
    rintro e w3 ⟨ad, cd, rfl, hod, hbd⟩
    have hcell : ∀ j, j < 3 → ∃ g, ad = some ⟨g, 0, none⟩ ∧ w3.cell? ⟨g, j, none⟩ = some (.int .i64 (digN 3 3 k j)) := fun j hj => by
      rcases hod.rowIn with ⟨_, h0⟩ | ⟨g, c', hv, _⟩
      · have := congrArg List.length h0; rw [digs_len] at this; simp at this
      · simp only [Value.slice.injEq] at hv
        obtain ⟨rfl, hl, rfl⟩ := hv
        refine ⟨g, rfl, ?_⟩
        rw [hod.cell_of j (by rw [digs_len]; exact hj), digs_at _ _ _ _ hj]
    obtain ⟨g, rfl, r0⟩ := hcell 0 (by omega)
    obtain ⟨g1, e1, r1⟩ := hcell 1 (by omega)
    obtain ⟨g2, e2, r2⟩ := hcell 2 (by omega)
    simp only [Option.some.injEq, Addr.mk.injEq, and_true] at e1 e2
    subst e1 e2
    clear hcell hod
    have HBD := Lib.hid hbd
    obtain ⟨x, hx⟩ : ∃ x : Int, (digN 3 3 k 0 : Int) = x := ⟨_, rfl⟩
    obtain ⟨y, hy⟩ : ∃ y : Int, (digN 3 3 k 1 : Int) = y := ⟨_, rfl⟩
    obtain ⟨z, hz⟩ : ∃ z : Int, (digN 3 3 k 2 : Int) = z := ⟨_, rfl⟩
    obtain ⟨v, hv⟩ : ∃ v, affV 3 k = v := ⟨_, rfl⟩
    have HV : Hid ((x - y + z + 6) % 3 = v) := Lib.hid (by rw [← hv, ← hx, ← hy, ← hz]; rfl)
    have HAV := Lib.hid hv
    have hxb : 0 ≤ x ∧ x < 3 := by rw [← hx]; unfold digN; omega
    have hyb : 0 ≤ y ∧ y < 3 := by rw [← hy]; unfold digN; omega
    have hzb : 0 ≤ z ∧ z < 3 := by rw [← hz]; unfold digN; omega
    rw [hx] at r0
    rw [hy] at r1
    rw [hz] at r2
    have HXB : Hid (-2 ≤ x - y + z ∧ x - y + z ≤ 4) := Lib.hid (by omega)
    have b1 : IntKind.i64.wrap (x - y) = x - y := IntWalk.i64_in _ (by omega)
    have b2 : IntKind.i64.wrap (x - y + z) = x - y + z := IntWalk.i64_in _ (by omega)
    have d1 := below_cell hbd (HBX.out.c 1 rfl)
    clear hx hy hz hv hbd hxb hyb hzb
    go_wp2
    refine wp_region_noPanic ?_
    refine wp_region_late (S := (fun w' => w'.cell? ⟨w.heap.size + 1, 1, none⟩ = some (.slice a n c) ∧ w'.cell? ⟨g, 0, none⟩ = some (.int .i64 x) ∧ w'.cell? ⟨g, 1, none⟩ = some (.int .i64 y) ∧ w'.cell? ⟨g, 2, none⟩ = some (.int .i64 z) ∧ Below wr.heap.size wr w')) [16, 18] (by kernel_rfl) ?_ (fun hHeld => ?_)
    · exact ⟨d1, r0, r1, r2, HBD.out.trans (((QW.refl _).drew.below _).mono HBD.out.size)⟩
    refine wpAnyL_free (i := 0) (v := ?_) (some 19) rfl rfl (by kernel_rfl) (by kernel_rfl) (by kernel_rfl) (by decide) (fun _ _ _ h => h) (Or.inl ⟨by rfl, ?_⟩) (fun h0 => by assumption) ?_
    rotate_left
    · intro wS
      go_simp
      try with_reducible rfl
    try simp only [Act.put, List.setIfInBounds_toArray, List.set_cons_zero, List.set_cons_succ]
    refine wpAnyL_take (i := 1) (v := ?_) (some 20) rfl rfl (by kernel_rfl) (by kernel_rfl) (by kernel_rfl) (by kernel_rfl) (by kernel_rfl) (fun _ _ _ h => h) (Or.inl ⟨by rfl, ?_⟩) (by assumption) ?_
    rotate_left
    · intro wS hSw
      try dsimp only at hSw
      go_simp
      try with_reducible rfl
    try simp only [Act.put, List.setIfInBounds_toArray, List.set_cons_zero, List.set_cons_succ]
    refine wpAnyL_free (i := 2) (v := ?_) (some 21) rfl rfl (by kernel_rfl) (by kernel_rfl) (by kernel_rfl) (by decide) (fun _ _ _ h => h) (Or.inl ⟨by rfl, ?_⟩) (fun h0 => by assumption) ?_
    rotate_left
    · intro wS
      go_simp
      try with_reducible rfl
    try simp only [Act.put, List.setIfInBounds_toArray, List.set_cons_zero, List.set_cons_succ]
    refine wpAnyL_free (i := 3) (v := ?_) (some 22) rfl rfl (by kernel_rfl) (by kernel_rfl) (by kernel_rfl) (by decide) (fun _ _ _ h => h) (Or.inl ⟨by rfl, ?_⟩) (fun h0 => by assumption) ?_
    rotate_left
    · intro wS
      go_simp
      try with_reducible rfl
    try simp only [Act.put, List.setIfInBounds_toArray, List.set_cons_zero, List.set_cons_succ]
    refine wpAnyL_take (i := 4) (v := ?_) (some 23) rfl rfl (by kernel_rfl) (by kernel_rfl) (by kernel_rfl) (by kernel_rfl) (by kernel_rfl) (fun _ _ _ h => h) (Or.inl ⟨by rfl, ?_⟩) (by assumption) ?_
    rotate_left
    · intro wS hSw
      try dsimp only at hSw
      go_simp
      try with_reducible rfl
    try simp only [Act.put, List.setIfInBounds_toArray, List.set_cons_zero, List.set_cons_succ]
    refine wpAnyL_free (i := 5) (v := ?_) (some 24) rfl rfl (by kernel_rfl) (by kernel_rfl) (by kernel_rfl) (by decide) (fun _ _ _ h => h) (Or.inl ⟨by rfl, ?_⟩) (fun h0 => by assumption) ?_
    rotate_left
    · intro wS
      go_simp
      try with_reducible rfl
    try simp only [Act.put, List.setIfInBounds_toArray, List.set_cons_zero, List.set_cons_succ]
    refine wpAnyL_free (i := 6) (v := ?_) (some 25) rfl rfl (by kernel_rfl) (by kernel_rfl) (by kernel_rfl) (by decide) (fun _ _ _ h => h) (Or.inl ⟨by rfl, ?_⟩) (fun h0 => by assumption) ?_
    rotate_left
    · intro wS
      go_simp
      try with_reducible rfl
    try simp only [Act.put, List.setIfInBounds_toArray, List.set_cons_zero, List.set_cons_succ]
    refine wpAnyL_take (i := 7) (v := ?_) (some 26) rfl rfl (by kernel_rfl) (by kernel_rfl) (by kernel_rfl) (by kernel_rfl) (by kernel_rfl) (fun _ _ _ h => h) (Or.inl ⟨by rfl, ?_⟩) (by assumption) ?_
    rotate_left
    · intro wS hSw
      try dsimp only at hSw
      go_simp
      try with_reducible rfl
    try simp only [Act.put, List.setIfInBounds_toArray, List.set_cons_zero, List.set_cons_succ]
    refine wpAnyL_free (i := 8) (v := ?_) (some 27) rfl rfl (by kernel_rfl) (by kernel_rfl) (by kernel_rfl) (by decide) (fun _ _ _ h => h) (Or.inl ⟨by rfl, ?_⟩) (fun h0 => by assumption) ?_
    rotate_left
    · intro wS
      go_simp
      try with_reducible rfl
    try simp only [Act.put, List.setIfInBounds_toArray, List.set_cons_zero, List.set_cons_succ]
    refine wpAnyL_free (i := 9) (v := ?_) (some 28) rfl rfl (by kernel_rfl) (by kernel_rfl) (by kernel_rfl) (by decide) (fun _ _ _ h => h) (Or.inl ⟨by rfl, ?_⟩) (fun h0 => by assumption) ?_
    rotate_left
    · intro wS
      go_simp
      try with_reducible rfl
    try simp only [Act.put, List.setIfInBounds_toArray, List.set_cons_zero, List.set_cons_succ]
    refine wpAnyL_free (i := 10) (v := ?_) (some 29) rfl rfl (by kernel_rfl) (by kernel_rfl) (by kernel_rfl) (by decide) (fun _ _ _ h => h) (Or.inl ⟨by rfl, ?_⟩) (fun h0 => by assumption) ?_
    rotate_left
    · intro wS
      go_simp
      try with_reducible rfl
    try simp only [Act.put, List.setIfInBounds_toArray, List.set_cons_zero, List.set_cons_succ]
    refine wpAnyL_take (i := 11) (v := ?_) (some 30) rfl rfl (by kernel_rfl) (by kernel_rfl) (by kernel_rfl) (by kernel_rfl) (by kernel_rfl) (fun _ _ _ h => h) (Or.inl ⟨by rfl, ?_⟩) (by assumption) ?_
    rotate_left
    · intro wS hSw
      try dsimp only at hSw
      go_simp
      try with_reducible rfl
    try simp only [Act.put, List.setIfInBounds_toArray, List.set_cons_zero, List.set_cons_succ]
    refine wpAnyL_free (i := 12) (v := ?_) (some 31) rfl rfl (by kernel_rfl) (by kernel_rfl) (by kernel_rfl) (by decide) (fun _ _ _ h => h) (Or.inl ⟨by rfl, ?_⟩) (fun h0 => by assumption) ?_
    rotate_left
    · intro wS
      go_simp
      try with_reducible rfl
    try simp only [Act.put, List.setIfInBounds_toArray, List.set_cons_zero, List.set_cons_succ]
    refine wpAnyL_free (i := 13) (v := ?_) (some 32) rfl rfl (by kernel_rfl) (by kernel_rfl) (by kernel_rfl) (by decide) (fun _ _ _ h => h) (Or.inl ⟨by rfl, ?_⟩) (fun h0 => by assumption) ?_
    rotate_left
    · intro wS
      go_simp
      try with_reducible rfl
    try simp only [Act.put, List.setIfInBounds_toArray, List.set_cons_zero, List.set_cons_succ]
    refine wpAnyL_ready (rs := [14]) (by kernel_rfl) (by simp) ?_
    refine AllReadyL.cons rfl (fun K hK => ?_) AllReadyL.nil
    go_simp; go_at_call 160; refine (l07Mod3 _ HXB.out _).mono ?_; rintro e w4 ⟨rfl, rfl⟩
    rw [HV.out]
    refine hK.out _ _ ?_ (fun hHeld => ?_)
    · exact hHeld
    clear hK K
    try simp only [Act.put, List.setIfInBounds_toArray, List.set_cons_zero, List.set_cons_succ]
    refine wpAnyL_ready (rs := [15]) (by kernel_rfl) (by simp) ?_
    refine AllReadyL.cons rfl (fun K hK => ?_) AllReadyL.nil
    go_simp
    refine hK.out _ _ ?_ (fun hHeld => ?_)
    · exact ⟨below_cell ((Below.refl _ _).alloc (Nat.le_refl _) _) hHeld.1, below_cell ((Below.refl _ _).alloc (Nat.le_refl _) _) hHeld.2.1, below_cell ((Below.refl _ _).alloc (Nat.le_refl _) _) hHeld.2.2.1, below_cell ((Below.refl _ _).alloc (Nat.le_refl _) _) hHeld.2.2.2.1, hHeld.2.2.2.2.trans (((Below.refl _ _).alloc (Nat.le_refl _) _).mono hHeld.2.2.2.2.size)⟩
    clear hK K
    try simp only [Act.put, List.setIfInBounds_toArray, List.set_cons_zero, List.set_cons_succ]
    refine wpAnyL_ready (rs := [16]) (by kernel_rfl) (by simp) ?_
    refine AllReadyL.last rfl (by kernel_rfl) (fun K hK => ?_) AllReadyL.nil
    have HAL := Lib.hid (hHeld.2.2.2.2)
    refine step_append_lies _ (by rfl) _ _ 22 (by rfl) (w.heap.size + 2) 2 i0 (.int .i64 0) 1 8 Try.underlying22 hi0 hz0 hz1 hz2 (by rfl) (by decide) (.slice a n c) (k) _ (by rfl) (ownsRow_below HO.out HAL.out) _ 1 1 [.int .i64 v] (by rfl) (by rfl) (fun j u hu => World.news_of_block (heap_alloc_new _ _) j u (by simpa using hu)) (by simp [Value.oneCell']) (by omega) (by unfold maxLen; omega) (by omega) (Nat.le_trans hsz HAL.out.size) _ rfl ?_; intro g5 cap5 w6 hown5 hgrow5 hat5 hlt5
    have HBX5 := Lib.hid ((HBX.out.below HAL.out).grown hgrow5 (own_awayC HO.out (w.heap.size + 1) (by omega)))
    have HB05 := Lib.hid ((HB0.out.below HAL.out).grown hgrow5 (own_awayC HO.out w.heap.size (by omega)))
    have HW5 := Lib.hid ((HW.out.trans (HAL.out.mono HW.out.size)).grown hgrow5 (by have := HAL.out.size; have := HW.out.size; omega) (fun g hg => by have := (HO.out.lt g hg).1; omega))
    have HO5 := Lib.hid hown5
    have HS5 := Lib.hid (Nat.le_trans HAL.out.size hgrow5.size)
    have k1 := HBX5.out.c 1 rfl
    have kf := HBX5.out.free 1
    clear hown5 hgrow5 hat5 hlt5 HAL
    refine hK.out _ _ ?_
    clear hK K
    try simp only [Act.put, List.setIfInBounds_toArray, List.set_cons_zero, List.set_cons_succ]
    refine wpAnyL_free (i := 17) (v := ?_) (some 36) rfl rfl (by kernel_rfl) (by kernel_rfl) (by kernel_rfl) (by decide) (fun _ _ _ h => h) (Or.inl ⟨by rfl, ?_⟩) (fun h0 => absurd h0 (by decide)) ?_
    rotate_left
    · intro wS
      go_simp
      try with_reducible rfl
    try simp only [Act.put, List.setIfInBounds_toArray, List.set_cons_zero, List.set_cons_succ]
    refine wpAnyL_ready (rs := [18]) (by kernel_rfl) (by simp) ?_
    refine AllReadyL.last rfl (by kernel_rfl) (fun K hK => ?_) AllReadyL.nil
    go_simp
    refine hK.out _ _ ?_
    clear hK K
    try simp only [Act.put, List.setIfInBounds_toArray, List.set_cons_zero, List.set_cons_succ]
    refine wpAnyL_done (by kernel_rfl) ?_ _
    refine NoPanic.normal ?_
    go_wp2
    go_roundw
    case rel =>
      refine ⟨k + 1, by omega, by go_num, _, _, _, HBX5.out.set 1 _, HB05.out.other (show w.heap.size ≠ w.heap.size + 1 by omega) _, ?_, HW5.out.setCell (p := ⟨w.heap.size + 1, 1, none⟩) (by show w.heap.size ≤ w.heap.size + 1; omega) _, by have := HS5.out; simp [World.setCell]; omega⟩
      rw [show k + 1 = k + 1 from rfl, rowF_succ, HAV.out]
      exact ownsRow_same HO5.out fun g hg => Below.heap_setCell _ _ _ _ (by have := (HO5.out.lt g hg).1; show g ≠ w.heap.size + 1; omega)
    case measure => simp [intOf]; omega


/-- What AffineOp answers. -/
def AffineOpIs (p : Int) (x : Int) (t : List Int) (cd : Int) : Prop := OpAns True (p = 2 ∨ p = 3) 3 (affL p.toNat) x t cd
theorem AffineOpIs.exists (p : Int) : ∃ x t cd, AffineOpIs p x t cd := OpAns.exists _ _ _ _
theorem AffineOpIs.small {p : Int} {x : Int} {t : List Int} {cd : Int} (h : AffineOpIs p x t cd) : t.length ≤ 1048576 :=
  OpAns.small h fun _ h2 => by
    unfold affL
    rw [rowF_len]
    rcases h2 with rfl | rfl <;> decide

set_option linter.unusedSimpArgs false in
set_option maxHeartbeats 1000000 in
set_option maxRecDepth 100000 in
theorem implAffineOp (p : Int) (x : Int) (t : List Int) (cd : Int) (w : World) (hi : AffineOpIs p x t cd) : Calls Try.prog 83 #[.int .i64 p] w (MadeOp2 w x t cd) := by
  have HR0 := Lib.hid (Box.new 32 w #[.int .i64 0, .slice none 0 0])
  rcases hi with ⟨_, h2, rfl, rfl, rfl⟩ | ⟨_, h2, rfl, rfl, rfl⟩ | ⟨h, _⟩
  · rcases h2 with rfl | rfl
    · exact implAffine2 w
    · exact implAffine3 w
  · have HP := Lib.hid (Tells.no h2)
    clear h2
    have e0 := HR0.out.c 0 rfl
    have e1 := HR0.out.c 1 rfl
    have f0 := HR0.out.free 0
    have f1 := HR0.out.free 1
    go_enter Try.func83, Try.ntmps83
    go_wp2_with fail
    refine (isPrimeC p false _ HP.out).mono ?_
    rintro e w1 ⟨rfl, rfl⟩
    go_wp2
    refine bodyPost_ret (v := .tuple #[.agg #[.int .i64 0, .slice none 0 0], .int .i64 2]) (by simp [results, Try.results83, go_sem]) rfl ⟨_, _, _, rfl, ?_, ?_⟩
    · exact OwnRowE.nil _ _ _ (Nat.le_refl _)
    · exact (Below.refl _ _).alloc (Nat.le_refl _) _
  · exact absurd trivial h

end Go.Proofs.Ytoojgaaggdnpiaa
