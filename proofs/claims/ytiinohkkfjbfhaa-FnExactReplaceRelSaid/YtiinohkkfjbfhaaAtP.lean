/-
  The values of a tuple at some places: l01At and l01Places of the model, numberAt of the program.
-/
import Derived.Test.YtiinohkkfjbfhaaGMaps
import Derived.Test.YtiinohkkfjbfhaaGSet
namespace Go.Proofs.Ytiinohkkfjbfhaa
open Go.RowKit

def PlP (ps : List Int) (x : Int) : Prop := ∀ k, k < ps.length → 0 ≤ intN ps k ∧ intN ps k < x
theorem PlP.tup {ps : List Int} {x : Int} : PlP ps x ↔ TupP x ps.length ps := ⟨fun h => ⟨rfl, h⟩, fun h => h.2⟩
theorem mapped_place {size ar : Int} {t ps : List Int} (ht : TupP size ar t) (hp : PlP ps ar) : TupP size ps.length (mapped t ps) := by
  refine ⟨by rw [mapped_len], fun k hk => ?_⟩
  rw [mapped_len] at hk
  rw [mapped_at _ _ _ hk]
  have h1 := hp k hk
  have h2 := ht.1
  exact ht.2 _ (by omega)

set_option maxHeartbeats 1000000 in
theorem l01At (v1 v2 : Value) (xs to : List Int) (w : World) (h1 : RowAt w v1 xs) (h2 : RowAt w v2 to) (hl : xs.length ≤ 4) (hr : ∀ i, i < xs.length → 0 ≤ intN xs i ∧ intN xs i < to.length) :
    Calls Try.prog 154 #[v2, v1] w (fun e w' => ∃ a n c, e = .returned (.slice a n c) ∧ RowAt w' (.slice a n c) (mapped to xs) ∧ Below w.heap.size w w') := by
  obtain ⟨i0, hi, hz0, hz1, hz2⟩ := info_parts info_int'
  obtain ⟨a1, c1, rfl, hn1, hc1⟩ := h1
  obtain ⟨a2, c2, rfl, hn2, hc2⟩ := h2
  have HC1 := Lib.hid hc1
  have HC2 := Lib.hid hc2
  have HR := Lib.hid hr
  clear hc1 hc2 hr
  go_enter Try.func154, Try.ntmps154
  go_wp2
  go_loopw [5, 6] (fun v i wr => ∃ (k : Nat) (a : Option Addr) (n c : Nat), k ≤ xs.length ∧ i = .int .i64 k ∧ v = .slice a n c ∧ wr.ownsRow w.heap.size 2 1 (.slice a n c) k ((mapK to xs k).map (Value.int .i64)) ∧ Below w.heap.size w wr) (fun _ i _ => xs.length - (intOf i).toNat)
  case atStart => exact ⟨0, _, _, _, Nat.zero_le _, rfl, rfl, ownRow_lit w w.heap.size [] (Nat.le_refl _) (by simp), (Below.refl _ _).alloc (Nat.le_refl _) _⟩
  case round =>
    obtain ⟨k, a, n, c, hk, rfl, rfl, hown, hbel⟩ := hrel
    by_cases hlt : k < xs.length
    · obtain ⟨b1, off1, ha1, hcell1⟩ := HC1.out (by omega)
      subst ha1
      obtain ⟨g0, g1⟩ := HR.out k hlt
      obtain ⟨b2, off2, ha2, hcell2⟩ := HC2.out (by omega)
      subst ha2
      have hx1 := below_cell hbel (hcell1 k hlt)
      have hx2 := below_cell hbel (hcell2 (intN xs k).toNat (by omega))
      have hlt' : (k : Int) < (xs.length : Int) := by omega
      have HO := Lib.hid hown
      have HW := Lib.hid hbel
      have hc1 := cell_one_new wr (.int .i64 (intN to (intN xs k).toNat)) 2
      have HC1' := Lib.hid hc1
      clear hcell1 hcell2 hown hbel hc1
      go_wp2_with (at_builtin; refine wpList_append_own _ rfl _ _ 56 rfl w.heap.size 2 i0 (.int .i64 0) 1 8 Try.underlying56 hi hz0 hz1 hz2 rfl (by decide) (.slice a n c) k _ rfl (HO.out.alloc _) ⟨wr.heap.size, 0, none⟩ 1 1 [.int .i64 (intN to (intN xs k).toNat)] rfl rfl HC1'.out (by simp [Value.oneCell']) (by unfold maxLen; omega) (by omega) (by have := HW.out.size; simp; omega) ?_; intro v' w3 hown' hgrow _; obtain ⟨g', c', rfl⟩ := ownsRow_succ hown'; have HG3 := Lib.hid hown'; have HR3 := Lib.hid hgrow; clear hown' hgrow)
      go_roundw
      case rel =>
        refine ⟨k + 1, _, _, _, by omega, by go_num, rfl, ?_, ((HW.out.alloc HW.out.size _).grown HR3.out (by have := HW.out.size; simp; omega) (fun q hq => (HO.out.lt q hq).1))⟩
        rw [mapK_succ]; exact HG3.out
      case measure => simp [intOf]; omega
    · obtain rfl : k = xs.length := by omega
      have HE : Hid (OwnRow wr w.heap.size (.slice a n c) (mapped to xs)) := by
        show World.ownsRow _ _ _ _ _ _ _
        rw [mapped_len]
        exact hown
      have HW := Lib.hid hbel
      clear hown hbel
      go_wp2
      go_ret
      exact ⟨_, _, _, rfl, HE.out.rowAt, HW.out⟩


set_option maxHeartbeats 1000000 in
theorem l01Places (v : Value) (ps : List Int) (x : Int) (b : Bool) (w : World) (h : RowAt w v ps) (h1 : 1 ≤ x) (h2 : x ≤ 4) (hb : Tells b (PlP ps x)) :
    Calls Try.prog 125 #[v, .int .i64 x] w fun e w' => e = .returned (.bool b) ∧ w = w' := by
  obtain ⟨a, c, rfl, hn, hc⟩ := h
  have HC := Lib.hid hc
  have HB := Lib.hid hb
  clear hc hb
  go_enter Try.func125, Try.ntmps125
  go_wp2
  go_loop [5] (fun i => ∃ k : Nat, k ≤ ps.length ∧ i = .int .i64 k ∧ ∀ j, j < k → 0 ≤ intN ps j ∧ intN ps j < x) (fun i => ps.length - (intOf i).toNat)
  case atStart => exact ⟨0, Nat.zero_le _, rfl, fun j hj => absurd hj (Nat.not_lt_zero _)⟩
  case round =>
    obtain ⟨k, hk, rfl, hall⟩ := hrel
    have HA := Lib.hid hall
    clear hall
    by_cases hlt : k < ps.length
    · obtain ⟨b1, off1, ha1, hcell1⟩ := HC.out (by omega)
      subst ha1
      have hx1 := hcell1 k hlt
      have hlt' : (k : Int) < (ps.length : Int) := by omega
      clear hcell1
      by_cases hin : InP (intN ps k) 0 (x - 1)
      · have HI := Lib.hid (Tells.yes hin)
        have HP := Lib.hid hin
        clear hin
        go_wp2_with (go_at_call 75; refine (l00In _ _ _ true _ HI.out).mono ?_; rintro e w' ⟨rfl, rfl⟩)
        go_round
        case rel =>
          refine ⟨k + 1, by omega, by go_num, fun j hj => ?_⟩
          by_cases e : j = k
          · subst e; have := HP.out; unfold InP at this; omega
          · exact HA.out j (by omega)
        case measure => simp [intOf]; omega
      · have HI := Lib.hid (Tells.no hin)
        have HF := Lib.hid (HB.out.is_false fun h => hin (by have := h k hlt; unfold InP; omega))
        clear hin
        go_wp2_with (go_at_call 75; refine (l00In _ _ _ false _ HI.out).mono ?_; rintro e w' ⟨rfl, rfl⟩)
        go_ret
        exact ⟨ret_bool HF.out.symm, rfl⟩
    · obtain rfl : k = ps.length := by omega
      have HF := Lib.hid (HB.out.is_true fun j hj => HA.out j hj)
      go_wp2
      go_ret
      exact ⟨ret_bool HF.out.symm, rfl⟩

set_option maxHeartbeats 1000000 in
theorem numberAt (v1 v2 : Value) (t ps : List Int) (ar size : Int) (w : World) (g1 : RowAt w v1 t) (g2 : RowAt w v2 ps) (hs : In14 size) (har : In14 ar) (hl : (ps.length : Int) = ar) (ht : TupP size ar (mapped t ps)) (hp : PlP ps t.length) :
    Calls Try.prog 138 #[.int .i64 size, v1, v2] w fun e w' => e = .returned (.int .i64 (codeN size (mapped t ps) : Int)) ∧ w = w' := by
  rw [← codeN_cast ht hs har]
  obtain ⟨a1, c1, rfl, hn1, hc1⟩ := g1
  obtain ⟨a, c, rfl, hn, hc⟩ := g2
  have HC := Lib.hid hc
  have HC1 := Lib.hid hc1
  have HT := Lib.hid ht
  have HP := Lib.hid hp
  have HML := Lib.hid (mapped_len t ps)
  have h1 : 1 ≤ size := hs.1
  have h2 : size ≤ 4 := hs.2
  have hlen : ps.length ≤ 4 := by have := har.2; omega
  have HFIN : Hid (codeK size (mapped t ps) ps.length = code size (mapped t ps)) := Lib.hid (by unfold code; rw [mapped_len])
  have HSTEP : Hid (∀ k, k < ps.length → codeK size (mapped t ps) (k + 1) = codeK size (mapped t ps) k * size + intN t (intN ps k).toNat) := Lib.hid fun k hk => by
    show codeK size (mapped t ps) k * size + intN (mapped t ps) k = _
    rw [mapped_at _ _ _ hk]
  have HV : Hid (∀ k, k < ps.length → 0 ≤ intN t (intN ps k).toNat ∧ intN t (intN ps k).toNat < size) := Lib.hid fun k hk => by
    have := ht.2 k (by rw [mapped_len]; exact hk)
    rwa [mapped_at _ _ _ hk] at this
  clear hc hc1 ht hs har hp hl
  go_enter Try.func138, Try.ntmps138
  go_wp2
  go_loop [7, 12] (fun m i => ∃ k : Nat, k ≤ ps.length ∧ i = .int .i64 k ∧ m = .int .i64 (codeK size (mapped t ps) k)) (fun _ i => ps.length - (intOf i).toNat)
  case atStart => exact ⟨0, Nat.zero_le _, rfl, rfl⟩
  case round =>
    obtain ⟨k, hk, rfl, rfl⟩ := hrel
    by_cases hlt : k < ps.length
    · obtain ⟨b1, off1, ha1, hcell1⟩ := HC.out (by omega)
      subst ha1
      obtain ⟨p0, p1⟩ := HP.out k hlt
      obtain ⟨b2, off2, ha2, hcell2⟩ := HC1.out (by omega)
      subst ha2
      have hx1 := hcell1 k hlt
      have hx2 := hcell2 (intN ps k).toNat (by omega)
      have hlt' : (k : Int) < (ps.length : Int) := by omega
      obtain ⟨r0, r1⟩ := codeK_lt h1 h2 k (by omega) fun j hj => HT.out.2 j (by rw [HML.out]; omega)
      obtain ⟨g0, g1⟩ := HV.out k hlt
      have HS2 := Lib.hid (HSTEP.out k hlt)
      generalize codeK size (mapped t ps) k = m at *
      have hm0 : 0 ≤ m * size := Int.mul_nonneg r0 (by omega)
      have hm1 : m * size ≤ 1024 := by
        have : m * size ≤ m * 4 := Int.mul_le_mul_of_nonneg_left h2 r0
        omega
      clear hcell1 hcell2
      go_wp2
      go_round
      case rel => exact ⟨k + 1, by omega, by go_num, by rw [HS2.out]⟩
      case measure => simp [intOf]; omega
    · obtain rfl : k = ps.length := by omega
      go_wp2
      go_ret
      exact ⟨ret_int HFIN.out, rfl⟩

end Go.Proofs.Ytiinohkkfjbfhaa
