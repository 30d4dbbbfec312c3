/-
  The value of a list: ApplyOp of the model and of the program.
-/
import Derived.Test.YtpkmdieaifggoaaOpOk
import Derived.Test.YtpkmdieaifggoaaDigs
namespace Go.Proofs.Ytpkmdieaifggoaa
open Go.RowKit

set_option maxHeartbeats 1000000 in
theorem l01Code (v : Value) (xs : List Int) (ar size : Int) (w : World) (h : RowAt w v xs) (hs : In14 size) (har : In14 ar) (ht : TupP size ar xs) :
    Calls Try.prog 84 #[.int .i64 size, v] w fun e w' => e = .returned (.int .i64 (codeN size xs : Int)) ∧ w = w' := by
  rw [← codeN_cast ht hs har]
  obtain ⟨a, c, rfl, hn, hc⟩ := h
  have HC := Lib.hid hc
  have HT := Lib.hid ht
  have h1 : 1 ≤ size := hs.1
  have h2 : size ≤ 4 := hs.2
  have hlen := ht.len har
  clear hc ht hs har
  go_enter Try.func84, Try.ntmps84
  go_wp2
  go_loop [5, 6] (fun m i => ∃ k : Nat, k ≤ xs.length ∧ i = .int .i64 k ∧ m = .int .i64 (codeK size xs k)) (fun _ i => xs.length - (intOf i).toNat)
  case atStart => exact ⟨0, Nat.zero_le _, rfl, rfl⟩
  case round =>
    obtain ⟨k, hk, rfl, rfl⟩ := hrel
    by_cases hlt : k < xs.length
    · obtain ⟨b1, off1, ha1, hcell1⟩ := HC.out (by omega)
      subst ha1
      have hx1 := hcell1 k hlt
      have hlt' : (k : Int) < (xs.length : Int) := by omega
      obtain ⟨r0, r1⟩ := codeK_lt h1 h2 k (by omega) fun j hj => HT.out.2 j (by omega)
      obtain ⟨g0, g1⟩ := HT.out.2 k hlt
      have hm0 : 0 ≤ codeK size xs k * size := Int.mul_nonneg r0 (by omega)
      have hm1 : codeK size xs k * size ≤ 1024 := by
        have : codeK size xs k * size ≤ codeK size xs k * 4 := Int.mul_le_mul_of_nonneg_left h2 r0
        omega
      clear hcell1
      go_wp2
      go_round
      case rel => exact ⟨k + 1, by omega, by go_num, rfl⟩
      case measure => simp [intOf]; omega
    · obtain rfl : k = xs.length := by omega
      go_wp2
      go_ret
      exact ⟨rfl, rfl⟩

/-- What ApplyOp answers. -/
def ApplyOpIs (size ar : Int) (tab : List Int) (xs : List Int) (v cd : Int) : Prop :=
  (¬ OpOk size ar tab ∧ v = 0 ∧ cd = 1) ∨ (OpOk size ar tab ∧ ¬ TupP size ar xs ∧ v = 0 ∧ cd = 2) ∨ (OpOk size ar tab ∧ TupP size ar xs ∧ v = intN tab (codeN size xs) ∧ cd = 0)
theorem ApplyOpIs.exists (size ar : Int) (tab : List Int) (xs : List Int) : ∃ v cd, ApplyOpIs size ar tab xs v cd := by
  by_cases h : OpOk size ar tab
  · by_cases k : TupP size ar xs
    · exact ⟨_, _, .inr (.inr ⟨h, k, rfl, rfl⟩)⟩
    · exact ⟨_, _, .inr (.inl ⟨h, k, rfl, rfl⟩)⟩
  · exact ⟨_, _, .inl ⟨h, rfl, rfl⟩⟩

theorem In13.in14 {n : Int} (h : In13 n) : In14 n := ⟨h.1, by have := h.2; omega⟩

/-- The number of a list lies in the table. -/
theorem OpOk.lt {size ar : Int} {tab xs : List Int} (h : OpOk size ar tab) (k : TupP size ar xs) : codeN size xs < tab.length := by
  obtain ⟨hs, ha, ht⟩ := h
  obtain ⟨s, rfl⟩ : ∃ s : Nat, size = s := ⟨size.toNat, by have := hs.1; omega⟩
  obtain ⟨r, rfl⟩ : ∃ r : Nat, ar = r := ⟨ar.toNat, by have := ha.1; omega⟩
  have h1 : 1 ≤ s := by have := hs.1; omega
  have h2 := codeN_pow h1 k
  have h3 := ht.1
  simp only [Int.toNat_natCast] at h3
  omega

theorem SlAt.some_of {w : World} {a : Option Addr} {n c : Nat} {xs : List Int} (h : RowAt w (.slice a n c) xs) (k : Nat) (hk : k < xs.length) :
    ∃ b off, a = some ⟨b, off, none⟩ ∧ n = xs.length ∧ w.cell? ⟨b, off + k, none⟩ = some (.int .i64 (intN xs k)) := by
  obtain ⟨a', c', hv, hn, hc⟩ := h
  simp only [Value.slice.injEq] at hv
  obtain ⟨rfl, rfl, rfl⟩ := hv
  obtain ⟨b, off, ha, h⟩ := hc (by omega)
  exact ⟨b, off, ha, rfl, h k hk⟩

theorem numberOfN (v : Value) (xs : List Int) (ar size : Int) (m : Nat) (w : World) (h : RowAt w v xs) (hs : In14 size) (har : In14 ar) (ht : TupP size ar xs) (hm : codeN size xs = m) :
    Calls Try.prog 72 #[.int .i64 size, v] w fun e w' => e = .returned (.int .i64 (m : Int)) ∧ w = w' := hm ▸ numberOf' v xs ar size w h hs har ht

theorem l01CodeN (v : Value) (xs : List Int) (ar size : Int) (m : Nat) (w : World) (h : RowAt w v xs) (hs : In14 size) (har : In14 ar) (ht : TupP size ar xs) (hm : codeN size xs = m) :
    Calls Try.prog 84 #[.int .i64 size, v] w fun e w' => e = .returned (.int .i64 (m : Int)) ∧ w = w' := hm ▸ l01Code v xs ar size w h hs har ht

set_option maxHeartbeats 1000000 in
set_option maxRecDepth 100000 in
theorem l02Value (size ar : Int) (pb po : Nat) (tab : List Int) (v : Value) (xs : List Int) (w : World) (h : OpAt w pb po ar tab) (hv : RowAt w v xs) (ho : OpOk size ar tab) (ht : TupP size ar xs) :
    Calls Try.prog 71 #[.int .i64 size, .pointer (some ⟨pb, po, none⟩), v] w fun e w' => e = .returned (.int .i64 (intN tab (codeN size xs))) ∧ QW w w' := by
  obtain ⟨hp0, a, n, c, hp1, hr⟩ := h
  have hlt := ho.lt ht
  generalize hcd : codeN size xs = m at *
  obtain ⟨b, off, rfl, rfl, hcell⟩ := SlAt.some_of hr m hlt
  have HV := Lib.hid hv
  have HS := Lib.hid ho.1
  have HA := Lib.hid ho.2.1.in14
  have HX := Lib.hid ht
  have HCD := Lib.hid hcd
  have hltI : (m : Int) < (tab.length : Int) := by omega
  have hn : tab.length ≤ 9223372036854775807 := by obtain ⟨_, _, hv, hn, _⟩ := hr; exact hn
  clear hr hv ho ht hcd
  go_enter Try.func71, Try.ntmps71
  go_wp2
  go_quiet ((go_at_call 84; exact QW.calls_same (l01CodeN _ _ _ _ _ _ (((QW.refl _).drewN _).row HV.out) HS.out HA.out HX.out HCD.out)))
  go_wp2
  go_ret
  exact ⟨rfl, (QW.refl _).drewN _⟩

set_option maxHeartbeats 1000000 in
set_option maxRecDepth 100000 in
theorem specApplyOp (size : Int) (ar : Int) (a : Option Addr) (n c : Nat) (tab : List Int) (v2 : Value) (xs : List Int) (r cd : Int) (w : World) (h : RowAt w (.slice a n c) tab) (h2 : RowAt w v2 xs) (hi : ApplyOpIs size ar tab xs r cd) :
    Calls Try.prog 26 #[.int .i64 size, .agg #[.int .i64 ar, .slice a n c], v2] w fun e w' => e = .returned (.tuple #[.int .i64 r, .int .i64 cd]) ∧ Below w.heap.size w w' := by
  have HP := Lib.hid (OpAt.new w ar a n c tab 27 h)
  have K0 := Lib.hid ((((Kept.start w).read (lives_row _ _) h2).read (lives_row _ _) h).box w.heap.size rfl (.int .i64 ar) (.slice a n c) 27)
  clear h h2
  rcases hi with ⟨ho, rfl, rfl⟩ | ⟨ho, ht, rfl, rfl⟩ | ⟨ho, ht, rfl, rfl⟩
  · have HO := Lib.hid (Tells.no ho)
    clear ho
    go_enter Try.func26, Try.ntmps26
    go_wp2_with fail
    refine (l02Ok _ _ _ _ _ false _ HP.out HO.out).mono ?_
    rintro e w1 ⟨rfl, hq1⟩
    have KE := Lib.hid (K0.out.below hq1.bel)
    clear hq1
    go_wp2
    go_ret2
    exact ⟨rfl, KE.out.bel⟩
  · have HO := Lib.hid (Tells.yes ho)
    have HT := Lib.hid (Tells.no ht)
    have hs1 := ho.1.1
    have hs2 := ho.1.2
    clear ho ht
    go_enter Try.func26, Try.ntmps26
    go_wp2_with fail
    refine (l02Ok _ _ _ _ _ true _ HP.out HO.out).mono ?_
    rintro e w1 ⟨rfl, hq1⟩
    have K1 := Lib.hid (K0.out.below hq1.bel)
    have cc0 := K1.out.c 0 rfl
    clear hq1
    go_wp2_with fail
    refine (l01Tuple _ _ _ _ false _ (K1.out.r 1 rfl :) hs1 hs2 HT.out).mono ?_
    rintro e w2 ⟨rfl, rfl⟩
    go_wp2
    go_ret2
    exact ⟨rfl, K1.out.bel⟩
  · have HO := Lib.hid (Tells.yes ho)
    have HT := Lib.hid (Tells.yes ht)
    have HX := Lib.hid ht
    have HOO := Lib.hid ho
    have hs1 := ho.1.1
    have hs2 := ho.1.2
    clear ho ht
    go_enter Try.func26, Try.ntmps26
    go_wp2_with fail
    refine (l02Ok _ _ _ _ _ true _ HP.out HO.out).mono ?_
    rintro e w1 ⟨rfl, hq1⟩
    have K1 := Lib.hid (K0.out.below hq1.bel)
    have HP1 := Lib.hid (HP.out.below hq1.bel)
    have cc0 := K1.out.c 0 rfl
    clear hq1
    go_wp2_with fail
    refine (l01Tuple _ _ _ _ true _ (K1.out.r 1 rfl :) hs1 hs2 HT.out).mono ?_
    rintro e w2 ⟨rfl, rfl⟩
    go_wp2_with fail
    refine (l02Value _ _ _ _ _ _ _ _ HP1.out (K1.out.r 1 rfl :) HOO.out HX.out).mono ?_
    rintro e w3 ⟨rfl, hq3⟩
    have K3 := Lib.hid (K1.out.below hq3.bel)
    clear hq3
    go_wp2
    go_ret2
    exact ⟨rfl, K3.out.bel⟩

set_option maxHeartbeats 1000000 in
set_option maxRecDepth 100000 in
theorem implApplyOp (size : Int) (ar : Int) (a : Option Addr) (n c : Nat) (tab : List Int) (v2 : Value) (xs : List Int) (r cd : Int) (w : World) (h : RowAt w (.slice a n c) tab) (h2 : RowAt w v2 xs) (hi : ApplyOpIs size ar tab xs r cd) :
    Calls Try.prog 28 #[.int .i64 size, .agg #[.int .i64 ar, .slice a n c], v2] w fun e w' => e = .returned (.tuple #[.int .i64 r, .int .i64 cd]) ∧ Below w.heap.size w w' := by
  have K0 := Lib.hid ((((Kept.start w).read (lives_row _ _) h2).read (lives_row _ _) h).box w.heap.size rfl (.int .i64 ar) (.slice a n c) 27)
  clear h h2
  rcases hi with ⟨ho, rfl, rfl⟩ | ⟨ho, ht, rfl, rfl⟩ | ⟨ho, ht, rfl, rfl⟩
  · have HO := Lib.hid (Tells.no ho)
    clear ho
    go_enter Try.func28, Try.ntmps28
    go_wp2_with fail
    refine (implValidOp _ _ _ _ _ _ false _ (K0.out.r 0 rfl :) HO.out).mono ?_
    rintro e w1 ⟨rfl, hb1⟩
    have KE := Lib.hid (K0.out.below hb1)
    clear hb1
    go_wp2
    go_ret2
    exact ⟨rfl, KE.out.bel⟩
  · have HO := Lib.hid (Tells.yes ho)
    have HT := Lib.hid (Tells.no ht)
    clear ho ht
    go_enter Try.func28, Try.ntmps28
    go_wp2_with fail
    refine (implValidOp _ _ _ _ _ _ true _ (K0.out.r 0 rfl :) HO.out).mono ?_
    rintro e w1 ⟨rfl, hb1⟩
    have K1 := Lib.hid (K0.out.below hb1)
    have cc0 := K1.out.c 0 rfl
    clear hb1
    go_wp2_with fail
    refine (isListBelow _ _ _ _ false _ (K1.out.r 1 rfl :) HT.out).mono ?_
    rintro e w2 ⟨rfl, rfl⟩
    go_wp2
    go_ret2
    exact ⟨rfl, K1.out.bel⟩
  · have HO := Lib.hid (Tells.yes ho)
    have HT := Lib.hid (Tells.yes ht)
    have HX := Lib.hid ht
    have HS := Lib.hid ho.1
    have HA := Lib.hid ho.2.1.in14
    have hlt := ho.lt ht
    clear ho ht
    generalize hcd : codeN size xs = m at *
    have HCD := Lib.hid hcd
    clear hcd
    go_enter Try.func28, Try.ntmps28
    go_wp2_with fail
    refine (implValidOp _ _ _ _ _ _ true _ (K0.out.r 0 rfl :) HO.out).mono ?_
    rintro e w1 ⟨rfl, hb1⟩
    have K1 := Lib.hid (K0.out.below hb1)
    have cc0 := K1.out.c 0 rfl
    have cc1 := K1.out.c 1 rfl
    clear hb1
    obtain ⟨b, off, rfl, rfl, hcell⟩ := SlAt.some_of (K1.out.r 0 rfl :) m hlt
    have hltI : (m : Int) < (tab.length : Int) := by omega
    go_wp2_with fail
    refine (isListBelow _ _ _ _ true _ (K1.out.r 1 rfl :) HT.out).mono ?_
    rintro e w2 ⟨rfl, rfl⟩
    go_wp2
    go_quiet ((go_at_call 72; exact QW.calls_same (numberOfN _ _ _ _ _ _ (((QW.refl _).drewN _).row (K1.out.r 1 rfl :)) HS.out HA.out HX.out HCD.out)))
    go_wp2
    go_ret2
    exact ⟨rfl, (K1.out.drewN _).bel⟩

end Go.Proofs.Ytpkmdieaifggoaa
