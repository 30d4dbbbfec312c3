/-
  Sums of products: sumOf of the program, and whether values make an equation true, in the model.
-/
import Derived.Test.YtnbgpeoceejolaaSysOk
import Derived.Test.YtnbgpeoceejolaaFirst7
namespace Go.Proofs.Ytnbgpeoceejolaa
open Go.RowKit

/-- The sum of the first k products. -/
def dotK (xs ys : List Int) : Nat → Int
  | 0 => 0
  | k + 1 => dotK xs ys k + intN xs k * intN ys k
/-- All numbers are 0 to 2. -/
def Low3 (xs : List Int) : Prop := ∀ j, 0 ≤ intN xs j ∧ intN xs j ≤ 2
theorem prod3 {a b : Int} (ha : 0 ≤ a ∧ a ≤ 2) (hb : 0 ≤ b ∧ b ≤ 2) : 0 ≤ a * b ∧ a * b ≤ 4 := by
  obtain ⟨h1, h2⟩ := ha
  obtain rfl | rfl | rfl : a = 0 ∨ a = 1 ∨ a = 2 := by omega
  all_goals omega
theorem dotK_bd {xs ys : List Int} (hx : Low3 xs) (hy : Low3 ys) : ∀ k, 0 ≤ dotK xs ys k ∧ dotK xs ys k ≤ 4 * (k : Int)
  | 0 => ⟨Int.le_refl _, by simp [dotK]⟩
  | k + 1 => by
    have h1 := dotK_bd hx hy k
    have h2 := prod3 (hx k) (hy k)
    show 0 ≤ dotK xs ys k + intN xs k * intN ys k ∧ dotK xs ys k + intN xs k * intN ys k ≤ 4 * ((k + 1 : Nat) : Int)
    omega
theorem intN_out {xs : List Int} {j : Nat} (h : xs.length ≤ j) : intN xs j = 0 := by simp [intN, List.getD, List.getElem?_eq_none h]
theorem low3_of {xs : List Int} (h : ∀ j, j < xs.length → 0 ≤ intN xs j ∧ intN xs j ≤ 2) : Low3 xs := fun j => by
  by_cases hj : j < xs.length
  · exact h j hj
  · rw [intN_out (by omega)]; omega
theorem PrimeP.le {p : Int} (h : PrimeP p) : 2 ≤ p ∧ p ≤ 3 := by rcases h with rfl | rfl <;> decide
theorem EqnOk.low {p u r : Int} {row : List Int} (h : EqnOk p u r row) (hp : PrimeP p) : Low3 row :=
  low3_of fun j hj => ⟨(h.2.2 j hj).1, by have := (h.2.2 j hj).2; have := hp.le; omega⟩
theorem TupP.low {p u : Int} {row : List Int} (h : TupP p u row) (hp : PrimeP p) : Low3 row :=
  low3_of fun j hj => ⟨(h.2 j hj).1, by have := (h.2 j hj).2; have := hp.le; omega⟩

set_option linter.unusedSimpArgs false in
set_option maxHeartbeats 1000000 in
set_option maxRecDepth 100000 in
theorem sumOfC (p : Int) (a1 : Option Addr) (n1 c1 : Nat) (xs : List Int) (a2 : Option Addr) (n2 c2 : Nat) (ys : List Int) (w : World) (h1 : RowAt w (.slice a1 n1 c1) xs) (h2 : RowAt w (.slice a2 n2 c2) ys) (hl : xs.length = ys.length) (hp : PrimeP p) (hx : Low3 xs) (hy : Low3 ys) (hs : xs.length ≤ 12) :
    Calls Try.prog 142 #[.int .i64 p, .slice a1 n1 c1, .slice a2 n2 c2] w fun e w' => e = .returned (.int .i64 (dotK xs ys xs.length % p)) ∧ w = w' := by
  obtain ⟨a1', c1', hv1, hn1, hc1⟩ := h1
  simp only [Value.slice.injEq] at hv1
  obtain ⟨rfl, rfl, rfl⟩ := hv1
  obtain ⟨a2', c2', hv2, hn2, hc2⟩ := h2
  simp only [Value.slice.injEq] at hv2
  obtain ⟨rfl, rfl, rfl⟩ := hv2
  have HC1 := Lib.hid hc1
  have HC2 := Lib.hid hc2
  have HX := Lib.hid hx
  have HY := Lib.hid hy
  have HL := Lib.hid hl
  have hp2 := hp.le.1
  have hp3 := hp.le.2
  have hn2' : xs.length ≤ ys.length := by omega
  clear hc1 hc2 hx hy hl hp
  go_enter Try.func142, Try.ntmps142
  go_wp2
  go_loop [7, 12] (fun s i => ∃ k : Nat, k ≤ xs.length ∧ i = .int .i64 k ∧ s = .int .i64 (dotK xs ys k)) (fun _ i => xs.length - (intOf i).toNat)
  case atStart => exact ⟨0, Nat.zero_le _, rfl, rfl⟩
  case round =>
    obtain ⟨k, hk, rfl, rfl⟩ := hrel
    have hd := dotK_bd HX.out HY.out k
    by_cases hlt : k < xs.length
    · obtain ⟨b1, off1, rfl, hd1⟩ := HC1.out (by omega)
      obtain ⟨b2, off2, rfl, hd2⟩ := HC2.out (by omega)
      have e1 := hd1 k hlt
      have e2 := hd2 k (by omega)
      have hm := prod3 (HX.out k) (HY.out k)
      have hlt' : (k : Int) < (xs.length : Int) := by omega
      have hlt2 : (k : Int) < (ys.length : Int) := by omega
      clear hd1 hd2
      go_wp2
      go_round
      case rel => exact ⟨k + 1, by omega, by go_num, rfl⟩
      case measure => simp [intOf]; omega
    · obtain rfl : k = xs.length := by omega
      go_wp2
      go_ret
      exact ⟨rfl, rfl⟩

theorem sumOfM (p : Int) (a1 : Option Addr) (n1 c1 : Nat) (xs : List Int) (a2 : Option Addr) (n2 c2 : Nat) (ys : List Int) (m : Int) (w : World) (h1 : RowAt w (.slice a1 n1 c1) xs) (h2 : RowAt w (.slice a2 n2 c2) ys) (hl : xs.length = ys.length) (hp : PrimeP p) (hx : Low3 xs) (hy : Low3 ys) (hs : xs.length ≤ 12) (hm : dotK xs ys xs.length % p = m) :
    Calls Try.prog 142 #[.int .i64 p, .slice a1 n1 c1, .slice a2 n2 c2] w fun e w' => e = .returned (.int .i64 m) ∧ w = w' := by
  subst hm
  exact sumOfC p a1 n1 c1 xs a2 n2 c2 ys w h1 h2 hl hp hx hy hs

/-- Values make an equation true. -/
def HoldsE (p r : Int) (row vals : List Int) : Prop := dotK row vals row.length % p = r
theorem holdsE_iff {p r : Int} {row vals : List Int} (hp : PrimeP p) (hr : InP r 0 (p - 1)) : (dotK row vals row.length - r) % p = 0 ↔ HoldsE p r row vals := by
  obtain ⟨h1, h2⟩ := hr
  unfold HoldsE
  generalize dotK row vals row.length = d
  rcases hp with rfl | rfl <;> omega

set_option linter.unusedSimpArgs false in
set_option maxHeartbeats 1000000 in
set_option maxRecDepth 100000 in
theorem l07HoldsC (p r : Int) (eb eo : Nat) (row : List Int) (v : Value) (vals : List Int) (b : Bool) (w : World) (h : EqnAt w eb eo r row) (hv : RowAt w v vals) (hl : row.length = vals.length) (hp : PrimeP p) (hr : InP r 0 (p - 1)) (hx : Low3 row) (hy : Low3 vals) (hs : row.length ≤ 12) (hb : Tells b (HoldsE p r row vals)) :
    Calls Try.prog 148 #[.int .i64 p, .pointer (some ⟨eb, eo, none⟩), v] w fun e w' => e = .returned (.bool b) ∧ QW w w' := by
  obtain ⟨c1, a1, n1, k1, c0, hr1⟩ := h
  obtain ⟨a1', c1', hv1, hn1, hc1⟩ := hr1
  simp only [Value.slice.injEq] at hv1
  obtain ⟨rfl, rfl, rfl⟩ := hv1
  obtain ⟨a2, c2, rfl, hn2, hc2⟩ := hv
  have HC1 := Lib.hid hc1
  have HC2 := Lib.hid hc2
  have HX := Lib.hid hx
  have HY := Lib.hid hy
  have HL := Lib.hid hl
  have HP := Lib.hid hp
  have HR := Lib.hid hr
  have HB := Lib.hid hb
  have HS := Lib.hid hs
  have HE1 := Lib.hid c1
  have hs2 : vals.length ≤ 12 := by omega
  clear hc1 hc2 hx hy hl hp hr hb hs c1 hn1
  go_enter Try.func148, Try.ntmps148
  go_wp2
  go_loopw [7, 8] (fun s i wr => ∃ k : Nat, k ≤ vals.length ∧ i = .int .i64 k ∧ s = .int .i64 (dotK row vals k) ∧ QW w wr) (fun _ i _ => vals.length - (intOf i).toNat)
  case atStart => exact ⟨0, Nat.zero_le _, rfl, rfl, QW.refl _⟩
  case round =>
    obtain ⟨k, hk, rfl, rfl, hq⟩ := hrel
    have HQ := Lib.hid hq
    have hd := dotK_bd HX.out HY.out k
    have e0 := hq.cell c0
    clear hq
    by_cases hlt : k < vals.length
    · obtain ⟨b1, off1, rfl, hd1⟩ := HC1.out (by have := HL.out; omega)
      obtain ⟨b2, off2, rfl, hd2⟩ := HC2.out (by omega)
      have e1 := HQ.out.cell (hd1 k (by have := HL.out; omega))
      have e2 := HQ.out.cell (hd2 k hlt)
      have hm := prod3 (HX.out k) (HY.out k)
      obtain ⟨x, hxe⟩ : ∃ x, intN row k = x := ⟨_, rfl⟩
      obtain ⟨y, hye⟩ : ∃ y, intN vals k = y := ⟨_, rfl⟩
      obtain ⟨d, hde⟩ : ∃ d, dotK row vals k = d := ⟨_, rfl⟩
      obtain ⟨f, hfe⟩ : ∃ f, dotK row vals (k + 1) = f := ⟨_, rfl⟩
      have hfd : f = d + x * y := by rw [← hfe, ← hde, ← hxe, ← hye]; rfl
      rw [hde] at hd ⊢
      rw [hxe] at e1 hm
      rw [hye] at e2 hm
      have hlt2 : (k : Int) < (vals.length : Int) := by omega
      have hlt1 : (k : Int) < (row.length : Int) := by have := HL.out; omega
      have HF := Lib.hid hfe
      have hf0 : 0 ≤ f ∧ f ≤ 48 := by omega
      have hw1 : IntKind.i64.wrap (x * y) = x * y := IntWalk.i64_in _ (by omega)
      have hw2 : IntKind.i64.wrap (d + x * y) = f := by rw [← hfd]; exact IntWalk.i64_in _ (by omega)
      clear hd1 hd2 hxe hye hde hfe hfd
      go_wp2
      go_quiet (fail)
      clear hw1 hw2
      go_wp2
      go_roundw
      case rel => exact ⟨k + 1, by omega, by go_num, by rw [HF.out], HQ.out.drewN _⟩
      case measure => simp [intOf]; omega
    · obtain rfl : k = vals.length := by omega
      have HR1 := HR.out.1
      have HR2 := HR.out.2
      have hp3 := HP.out.le.2
      have c1 := HQ.out.cell HE1.out
      have HLL : Hid (dotK row vals vals.length = dotK row vals row.length) := Lib.hid (by rw [HL.out])
      obtain ⟨d, hde⟩ : ∃ d, dotK row vals vals.length = d := ⟨_, rfl⟩
      rw [hde] at hd ⊢
      have HD := Lib.hid hde
      clear hde
      cases b with
      | true =>
        have HZ : Hid ((d - r) % p = 0) := Lib.hid (by rw [← HD.out, HLL.out]; exact (holdsE_iff HP.out HR.out).2 (HB.out.1 rfl))
        go_wp2_with fail
        refine (l07ModP p (d - r) HP.out (by omega) _).mono ?_
        rw [HZ.out]
        rintro e w3 ⟨rfl, rfl⟩
        go_wp2
        go_ret
        exact ⟨rfl, HQ.out⟩
      | false =>
        have HZ : Hid (((d - r) % p == 0) = false) := Lib.hid (beq_eq_false_iff_ne.2 (by
          rw [← HD.out, HLL.out]
          intro h
          exact absurd (HB.out.2 ((holdsE_iff HP.out HR.out).1 h)) (by simp)))
        obtain ⟨m, hme⟩ : ∃ m, (d - r) % p = m := ⟨_, rfl⟩
        have hz := HZ.out
        rw [hme] at hz
        have HM := Lib.hid hme
        clear hme HZ
        go_wp2_with fail
        refine (l07ModP p (d - r) HP.out (by omega) _).mono ?_
        rw [HM.out]
        rintro e w3 ⟨rfl, rfl⟩
        go_wp2
        go_ret
        exact ⟨rfl, HQ.out⟩

end Go.Proofs.Ytnbgpeoceejolaa
