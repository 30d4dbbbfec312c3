/-
  HoldsIn of the model and of the program.
-/
import Derived.Test.YtadpnckpgpamiaaDot
namespace Go.Proofs.Ytadpnckpgpamiaa
open Go.RowKit

/-- Values make all equations true. -/
def AllHold (p : Int) (rs : List (Int × List Int)) (vals : List Int) : Prop := ∀ k, k < rs.length → HoldsE p (arO rs k) (rowO rs k) vals

set_option linter.unusedSimpArgs false in
set_option maxHeartbeats 1000000 in
set_option maxRecDepth 100000 in
theorem l07ValuesC (p u : Int) (pb po : Nat) (rs : List (Int × List Int)) (v : Value) (vals : List Int) (b : Bool) (w : World) (h : SysAt w pb po p u rs) (hv : RowAt w v vals) (hp : PrimeP p) (hb : Tells b (TupP p u vals)) :
    Calls Try.prog 78 #[.pointer (some ⟨pb, po, none⟩), v] w fun e w' => e = .returned (.bool b) ∧ QW w w' := by
  obtain ⟨c0, c1, -⟩ := h
  obtain ⟨a2, c2, rfl, hn2, hc2⟩ := hv
  have HC2 := Lib.hid hc2
  have HB := Lib.hid hb
  have hp2 := hp.le.1
  have hp3 := hp.le.2
  clear hc2 hb hp
  by_cases hl : (vals.length : Int) = u
  case neg =>
    have hle : ((vals.length : Int) != u) = true := bne_iff_ne.2 hl
    have HF := Lib.hid (HB.out.is_false fun h => hl h.1)
    clear hl
    go_enter Try.func78, Try.ntmps78
    go_wp2
    go_ret
    exact ⟨ret_bool HF.out.symm, QW.refl _⟩
  subst hl
  have hle : ((vals.length : Int) != (vals.length : Int)) = false := by simp
  go_enter Try.func78, Try.ntmps78
  go_wp2
  go_loopw [5] (fun i wr => ∃ k : Nat, k ≤ vals.length ∧ i = .int .i64 k ∧ (∀ j, j < k → 0 ≤ intN vals j ∧ intN vals j < p) ∧ QW w wr) (fun i _ => vals.length - (intOf i).toNat)
  case atStart => exact ⟨0, Nat.zero_le _, rfl, fun j hj => absurd hj (Nat.not_lt_zero _), QW.refl _⟩
  case round =>
    obtain ⟨k, hk, rfl, hall, hq⟩ := hrel
    have HA := Lib.hid hall
    have HQ := Lib.hid hq
    have e0 := hq.cell c0
    clear hall hq
    by_cases hlt : k < vals.length
    · obtain ⟨b2, off2, rfl, hd2⟩ := HC2.out (by omega)
      have e2 := HQ.out.cell (hd2 k hlt)
      obtain ⟨x, hxe⟩ : ∃ x, intN vals k = x := ⟨_, rfl⟩
      rw [hxe] at e2
      have HX := Lib.hid hxe
      have hlt2 : (k : Int) < (vals.length : Int) := by omega
      have hw1 : IntKind.i64.wrap (p - 1) = p - 1 := IntWalk.i64_in _ (by omega)
      clear hd2 hxe
      by_cases hin : InP x 0 (p - 1)
      · have HT := Lib.hid (Tells.yes hin)
        have HTH : Hid (0 ≤ intN vals k ∧ intN vals k < p) := Lib.hid (by rw [HX.out]; exact ⟨hin.1, by have := hin.2; omega⟩)
        clear hin
        go_wp2
        go_quiet ((go_at_call 84; exact QW.calls_same (l00In _ _ _ true _ HT.out)))
        clear hw1
        go_wp2
        go_roundw
        case rel =>
          refine ⟨k + 1, by omega, by go_num, fun j hj => ?_, HQ.out.drewN _⟩
          by_cases hjk : j = k
          · subst hjk; exact HTH.out
          · exact HA.out j (by omega)
        case measure => simp [intOf]; omega
      · have HT := Lib.hid (Tells.no hin)
        have HF := Lib.hid (HB.out.is_false fun h => hin (by have := h.2 k hlt; rw [HX.out] at this; exact ⟨this.1, by omega⟩))
        clear hin
        go_wp2
        go_quiet ((go_at_call 84; exact QW.calls_same (l00In _ _ _ false _ HT.out)))
        clear hw1
        go_wp2
        go_ret
        exact ⟨ret_bool HF.out.symm, HQ.out.drewN _⟩
    · obtain rfl : k = vals.length := by omega
      have HF := Lib.hid (HB.out.is_true ⟨rfl, HA.out⟩)
      go_wp2
      go_ret
      exact ⟨ret_bool HF.out.symm, HQ.out⟩

set_option linter.unusedSimpArgs false in
set_option maxHeartbeats 1000000 in
set_option maxRecDepth 100000 in
theorem l07AllC (p u : Int) (pb po : Nat) (rs : List (Int × List Int)) (v : Value) (vals : List Int) (b : Bool) (w : World) (h : SysAt w pb po p u rs) (hv : RowAt w v vals) (hok : SysOk p u rs) (ht : TupP p u vals) (hb : Tells b (AllHold p rs vals)) :
    Calls Try.prog 79 #[.pointer (some ⟨pb, po, none⟩), v] w fun e w' => e = .returned (.bool b) ∧ QW w w' := by
  obtain ⟨c0, c1, a, n, c, c2, a', c', he, hn, hc⟩ := h
  simp only [Value.slice.injEq] at he
  obtain ⟨rfl, rfl, rfl⟩ := he
  have HC := Lib.hid hc
  have HV := Lib.hid hv
  have HOK := Lib.hid hok
  have HT := Lib.hid ht
  have HB := Lib.hid hb
  have hl24 := hok.2.2.1
  clear hc hv hok ht hb c1
  go_enter Try.func79, Try.ntmps79
  go_wp2
  go_loopw [5] (fun i wr => ∃ k : Nat, k ≤ rs.length ∧ i = .int .i64 k ∧ (∀ j, j < k → HoldsE p (arO rs j) (rowO rs j) vals) ∧ QW w wr) (fun i _ => rs.length - (intOf i).toNat)
  case atStart => exact ⟨0, Nat.zero_le _, rfl, fun j hj => absurd hj (Nat.not_lt_zero _), QW.refl _⟩
  case round =>
    obtain ⟨k, hk, rfl, hall, hq⟩ := hrel
    have HA := Lib.hid hall
    have HQ := Lib.hid hq
    have e0 := hq.cell c0
    have e2 := hq.cell c2
    clear hall hq
    by_cases hlt : k < rs.length
    · obtain ⟨b1, off1, rfl, hd1⟩ := HC.out (by omega)
      have HE := Lib.hid ((hd1 k hlt).below HQ.out.bel)
      have hlt2 : (k : Int) < (rs.length : Int) := by omega
      have HEO := Lib.hid (HOK.out.2.2.2 k hlt)
      have HLE : Hid ((rowO rs k).length = vals.length) := Lib.hid (by have := HEO.out.1; have := HT.out.1; omega)
      have HS : Hid ((rowO rs k).length ≤ 12) := Lib.hid (by have := HEO.out.1; have := HOK.out.2.1.2; omega)
      clear hd1
      by_cases hh : HoldsE p (arO rs k) (rowO rs k) vals
      · have HH := Lib.hid (Tells.yes hh)
        have HTH := Lib.hid hh
        clear hh
        go_wp2
        go_quiet ((go_at_call 131; exact QW.calls (l07HoldsC _ _ _ _ _ _ _ true _ (HE.out.below (((QW.refl _).drewN _).bel)) ((HV.out.below HQ.out.bel).below (((QW.refl _).drewN _).bel)) HLE.out HOK.out.1 HEO.out.2.1 (HEO.out.low HOK.out.1) (HT.out.low HOK.out.1) HS.out HH.out)))
        go_wp2
        go_roundw
        case rel =>
          refine ⟨k + 1, by omega, by go_num, fun j hj => ?_, HQ.out.drewN _⟩
          by_cases hjk : j = k
          · subst hjk; exact HTH.out
          · exact HA.out j (by omega)
        case measure => simp [intOf]; omega
      · have HH := Lib.hid (Tells.no hh)
        have HF := Lib.hid (HB.out.is_false fun h => hh (h k hlt))
        clear hh
        go_wp2
        go_quiet ((go_at_call 131; exact QW.calls (l07HoldsC _ _ _ _ _ _ _ false _ (HE.out.below (((QW.refl _).drewN _).bel)) ((HV.out.below HQ.out.bel).below (((QW.refl _).drewN _).bel)) HLE.out HOK.out.1 HEO.out.2.1 (HEO.out.low HOK.out.1) (HT.out.low HOK.out.1) HS.out HH.out)))
        go_wp2
        go_ret
        exact ⟨ret_bool HF.out.symm, HQ.out.drewN _⟩
    · obtain rfl : k = rs.length := by omega
      have HF := Lib.hid (HB.out.is_true HA.out)
      go_wp2
      go_ret
      exact ⟨ret_bool HF.out.symm, HQ.out⟩

/-- What HoldsIn answers. -/
def HoldsInIs (p u : Int) (rs : List (Int × List Int)) (vals : List Int) (b : Bool) (cd : Int) : Prop :=
  (SysOk p u rs ∧ TupP p u vals ∧ cd = 0 ∧ Tells b (AllHold p rs vals)) ∨ (SysOk p u rs ∧ ¬ TupP p u vals ∧ cd = 2 ∧ b = false) ∨ (¬ SysOk p u rs ∧ cd = 1 ∧ b = false)
theorem HoldsInIs.exists (p u : Int) (rs : List (Int × List Int)) (vals : List Int) : ∃ b cd, HoldsInIs p u rs vals b cd := by
  by_cases h1 : SysOk p u rs
  · by_cases h2 : TupP p u vals
    · by_cases h3 : AllHold p rs vals
      · exact ⟨true, 0, .inl ⟨h1, h2, rfl, Tells.yes h3⟩⟩
      · exact ⟨false, 0, .inl ⟨h1, h2, rfl, Tells.no h3⟩⟩
    · exact ⟨false, 2, .inr (.inl ⟨h1, h2, rfl, rfl⟩)⟩
  · exact ⟨false, 1, .inr (.inr ⟨h1, rfl, rfl⟩)⟩

set_option linter.unusedSimpArgs false in
set_option maxHeartbeats 1000000 in
set_option maxRecDepth 100000 in
theorem specHoldsIn (p u : Int) (a : Option Addr) (n c : Nat) (rs : List (Int × List Int)) (v : Value) (vals : List Int) (b : Bool) (cd : Int) (w : World) (h : EqsAt w (.slice a n c) rs) (hv : RowAt w v vals) (hi : HoldsInIs p u rs vals b cd) :
    Calls Try.prog 21 #[.agg #[.int .i64 p, .int .i64 u, .slice a n c], v] w fun e w' => e = .returned (.tuple #[.bool b, .int .i64 cd]) ∧ Below w.heap.size w w' := by
  have HS := Lib.hid (SysAt.new w p u a n c rs 29 h)
  have HW : Hid (Below w.heap.size w (w.alloc (.cells #[.int .i64 p, .int .i64 u, .slice a n c] 29))) := Lib.hid ((Below.refl _ _).alloc (Nat.le_refl _) _)
  have HV := Lib.hid (hv.below HW.out)
  clear h hv
  rcases hi with ⟨h1, h2, rfl, h3⟩ | ⟨h1, h2, rfl, rfl⟩ | ⟨h1, rfl, rfl⟩
  · have HOK := Lib.hid h1
    have HT := Lib.hid h2
    have HB := Lib.hid h3
    clear h1 h2 h3
    go_enter Try.func21, Try.ntmps21
    go_wp2_with fail
    refine (l07Ok _ _ _ _ rs true _ HS.out (Tells.yes HOK.out)).mono ?_
    rintro e w2 ⟨rfl, hq⟩
    have HQ := Lib.hid hq
    clear hq
    go_wp2_with fail
    refine (l07ValuesC p u _ _ rs _ vals true _ (HS.out.below HQ.out.bel) (HV.out.below HQ.out.bel) HOK.out.1 (Tells.yes HT.out)).mono ?_
    rintro e w3 ⟨rfl, hq⟩
    have HQ3 := Lib.hid (HQ.out.trans hq)
    clear hq
    go_wp2_with fail
    refine (l07AllC p u _ _ rs _ vals b _ (HS.out.below HQ3.out.bel) (HV.out.below HQ3.out.bel) HOK.out HT.out HB.out).mono ?_
    rintro e w4 ⟨rfl, hq⟩
    have HQ4 := Lib.hid (HQ3.out.trans hq)
    clear hq
    go_wp2
    go_ret2
    exact ⟨rfl, HW.out.trans (HQ4.out.below _)⟩
  · have HOK := Lib.hid h1
    have HT := Lib.hid h2
    clear h1 h2
    go_enter Try.func21, Try.ntmps21
    go_wp2_with fail
    refine (l07Ok _ _ _ _ rs true _ HS.out (Tells.yes HOK.out)).mono ?_
    rintro e w2 ⟨rfl, hq⟩
    have HQ := Lib.hid hq
    clear hq
    go_wp2_with fail
    refine (l07ValuesC p u _ _ rs _ vals false _ (HS.out.below HQ.out.bel) (HV.out.below HQ.out.bel) HOK.out.1 (Tells.no HT.out)).mono ?_
    rintro e w3 ⟨rfl, hq⟩
    have HQ3 := Lib.hid (HQ.out.trans hq)
    clear hq
    go_wp2
    go_ret2
    exact ⟨rfl, HW.out.trans (HQ3.out.below _)⟩
  · have HOK := Lib.hid h1
    clear h1
    go_enter Try.func21, Try.ntmps21
    go_wp2_with fail
    refine (l07Ok _ _ _ _ rs false _ HS.out (Tells.no HOK.out)).mono ?_
    rintro e w2 ⟨rfl, hq⟩
    have HQ := Lib.hid hq
    clear hq
    go_wp2
    go_ret2
    exact ⟨rfl, HW.out.trans (HQ.out.below _)⟩

set_option linter.unusedSimpArgs false in
set_option maxHeartbeats 1000000 in
set_option maxRecDepth 100000 in
theorem holdsFn (p r : Int) (a1 : Option Addr) (n1 k1 : Nat) (row : List Int) (sb vb : Nat) (a2 : Option Addr) (n2 k2 : Nat) (vals : List Int) (b : Bool) (w : World) (h1 : RowAt w (.slice a1 n1 k1) row) (c0 : w.cell? ⟨sb, 0, none⟩ = some (.int .i64 p)) (cv : w.cell? ⟨vb, 0, none⟩ = some (.slice a2 n2 k2)) (hv : RowAt w (.slice a2 n2 k2) vals) (hl : row.length = vals.length) (hp : PrimeP p) (hx : Low3 row) (hy : Low3 vals) (hs : row.length ≤ 12) (hb : Tells b (HoldsE p r row vals)) :
    Calls Try.prog 81 #[.agg #[.slice a1 n1 k1, .int .i64 r], .pointer (some ⟨sb, 0, none⟩), .pointer (some ⟨vb, 0, none⟩)] w fun e w' => e = .returned (.bool (!b)) ∧ Below w.heap.size w w' := by
  have HW : Hid (Below w.heap.size w (w.alloc (.cells #[.slice a1 n1 k1, .int .i64 r] 104))) := Lib.hid ((Below.refl _ _).alloc (Nat.le_refl _) _)
  have HBX := Lib.hid (Box.new 104 w #[.slice a1 n1 k1, .int .i64 r])
  have d0 := HBX.out.c 0 rfl
  have d1 := HBX.out.c 1 rfl
  have e0 := below_cell HW.out c0
  have ev := below_cell HW.out cv
  have H1 := Lib.hid (h1.below HW.out)
  have HV := Lib.hid (hv.below HW.out)
  have HX := Lib.hid hx
  have HY := Lib.hid hy
  have HL := Lib.hid hl
  have HP := Lib.hid hp
  have HS := Lib.hid hs
  clear h1 c0 cv hv hl hx hy hp hs
  obtain ⟨m, hm⟩ : ∃ m, dotK row vals row.length % p = m := ⟨_, rfl⟩
  have HM := Lib.hid hm
  cases b with
  | true =>
    have hmr : (m != r) = false := by have := hb.1 rfl; unfold HoldsE at this; rw [hm] at this; simp [this]
    clear hb hm
    go_enter Try.func81, Try.ntmps81
    go_wp2
    go_quiet ((go_at_call 82; exact QW.calls_same (sumOfM _ _ _ _ row _ _ _ vals m _ (H1.out.below (((QW.refl _).drewN _).bel)) (HV.out.below (((QW.refl _).drewN _).bel)) HL.out HP.out HX.out HY.out HS.out HM.out)))
    go_wp2
    go_ret
    exact ⟨rfl, HW.out.trans (((QW.refl _).drewN _).below _)⟩
  | false =>
    have hmr : (m != r) = true := by
      have : ¬ HoldsE p r row vals := fun h => absurd (hb.2 h) (by simp)
      unfold HoldsE at this
      rw [hm] at this
      simpa using this
    clear hb hm
    go_enter Try.func81, Try.ntmps81
    go_wp2
    go_quiet ((go_at_call 82; exact QW.calls_same (sumOfM _ _ _ _ row _ _ _ vals m _ (H1.out.below (((QW.refl _).drewN _).bel)) (HV.out.below (((QW.refl _).drewN _).bel)) HL.out HP.out HX.out HY.out HS.out HM.out)))
    go_wp2
    go_ret
    exact ⟨rfl, HW.out.trans (((QW.refl _).drewN _).below _)⟩

/-- The captured variables stand. -/
def HoldsCap (p : Int) (sb vb : Nat) (u : Value) (vals : List Int) (w : World) : Prop :=
  w.cell? ⟨sb, 0, none⟩ = some (.int .i64 p) ∧ ∃ a n c, u = .slice a n c ∧ w.cell? ⟨vb, 0, none⟩ = some (.slice a n c) ∧ RowAt w (.slice a n c) vals
theorem HoldsCap.below {p : Int} {sb vb : Nat} {u : Value} {vals : List Int} {w w' : World} (h : HoldsCap p sb vb u vals w) (hb : Below w.heap.size w w') : HoldsCap p sb vb u vals w' := by
  obtain ⟨h1, a, n, c, h2, h3, h4⟩ := h
  exact ⟨below_cell hb h1, a, n, c, h2, below_cell hb h3, h4.below hb⟩

set_option linter.unusedSimpArgs false in
set_option maxHeartbeats 1000000 in
set_option maxRecDepth 100000 in
theorem indexHolds (p q : Int) (v : Value) (rs : List (Int × List Int)) (sb vb : Nat) (u : Value) (vals : List Int) (w : World) (h : EqsAt w v rs) (hc : HoldsCap p sb vb u vals w) (hok : SysOk p q rs) (ht : TupP p q vals) :
    Calls Try.prog 132 #[v, .func (.func 81) #[] #[.pointer (some ⟨sb, 0, none⟩), .pointer (some ⟨vb, 0, none⟩)]] w fun e w' => ∃ m : Int, e = .returned (.int .i64 m) ∧ (0 ≤ m ↔ ¬ AllHold p rs vals) ∧ Below w.heap.size w w' := by
  obtain ⟨a1, c1, rfl, hn1, hc1⟩ := h
  have HC1 := Lib.hid hc1
  have HCP := Lib.hid hc
  have HOK := Lib.hid hok
  have HT := Lib.hid ht
  have hl24 := hok.2.2.1
  clear hc1 hc hok ht
  go_enter Try.func132, Try.ntmps132
  go_wp2
  go_loopw [8] (fun i wr => ∃ k : Nat, k ≤ rs.length ∧ i = .int .i64 k ∧ (∀ j, j < k → HoldsE p (arO rs j) (rowO rs j) vals) ∧ Below w.heap.size w wr) (fun i _ => rs.length - (intOf i).toNat)
  case atStart => exact ⟨0, Nat.zero_le _, rfl, fun j hj => absurd hj (Nat.not_lt_zero _), Below.refl _ _⟩
  case round =>
    obtain ⟨k, hk, rfl, hall, hbel⟩ := hrel
    have HA := Lib.hid hall
    have HB := Lib.hid hbel
    clear hall hbel
    by_cases hlt : k < rs.length
    · obtain ⟨b1, off1, rfl, hd1⟩ := HC1.out (by omega)
      obtain ⟨y1, A1, N1, D1, y0, r1⟩ := (hd1 k hlt).below HB.out
      have R1 := Lib.hid r1
      obtain ⟨z0, A2, N2, D2, rfl, z1, r2⟩ := HCP.out.below HB.out
      have R2 := Lib.hid r2
      have Z0 := Lib.hid z0
      have Z1 := Lib.hid z1
      have hlt2 : (k : Int) < (rs.length : Int) := by omega
      have HEO := Lib.hid (HOK.out.2.2.2 k hlt)
      have HLE : Hid ((rowO rs k).length = vals.length) := Lib.hid (by have := HEO.out.1; have := HT.out.1; omega)
      have HS : Hid ((rowO rs k).length ≤ 12) := Lib.hid (by have := HEO.out.1; have := HOK.out.2.1.2; omega)
      clear hd1 r1 r2 z0 z1
      by_cases hh : HoldsE p (arO rs k) (rowO rs k) vals
      · have HH := Lib.hid (Tells.yes hh)
        have HTH := Lib.hid hh
        clear hh
        go_wp2_with fail
        refine (holdsFn p _ _ _ _ (rowO rs k) _ _ _ _ _ vals true _ R1.out Z0.out Z1.out R2.out HLE.out HOK.out.1 (HEO.out.low HOK.out.1) (HT.out.low HOK.out.1) HS.out HH.out).mono ?_
        rintro e w2 ⟨rfl, hb2⟩
        have HB2 := Lib.hid (HB.out.trans (hb2.mono HB.out.size))
        clear hb2
        go_wp2
        go_roundw
        case rel =>
          refine ⟨k + 1, by omega, by go_num, fun j hj => ?_, HB2.out⟩
          by_cases hjk : j = k
          · subst hjk; exact HTH.out
          · exact HA.out j (by omega)
        case measure => simp [intOf]; omega
      · have HH := Lib.hid (Tells.no hh)
        have HF : Hid (¬ AllHold p rs vals) := Lib.hid fun h => hh (h k hlt)
        clear hh
        go_wp2_with fail
        refine (holdsFn p _ _ _ _ (rowO rs k) _ _ _ _ _ vals false _ R1.out Z0.out Z1.out R2.out HLE.out HOK.out.1 (HEO.out.low HOK.out.1) (HT.out.low HOK.out.1) HS.out HH.out).mono ?_
        rintro e w2 ⟨rfl, hb2⟩
        have HB2 := Lib.hid (HB.out.trans (hb2.mono HB.out.size))
        clear hb2
        go_wp2
        go_ret
        exact ⟨_, rfl, ⟨fun _ => HF.out, fun _ => by omega⟩, HB2.out⟩
    · obtain rfl : k = rs.length := by omega
      have HF : Hid (AllHold p rs vals) := Lib.hid HA.out
      go_wp2
      go_ret
      exact ⟨_, rfl, ⟨fun h => absurd h (by decide), fun h => absurd HF.out h⟩, HB.out⟩

set_option linter.unusedSimpArgs false in
set_option maxHeartbeats 1000000 in
set_option maxRecDepth 100000 in
theorem containsHolds (p q : Int) (v : Value) (rs : List (Int × List Int)) (sb vb : Nat) (u : Value) (vals : List Int) (b : Bool) (w : World) (h : EqsAt w v rs) (hc : HoldsCap p sb vb u vals w) (hok : SysOk p q rs) (ht : TupP p q vals) (hb : Tells b (AllHold p rs vals)) :
    Calls Try.prog 83 #[v, .func (.func 81) #[] #[.pointer (some ⟨sb, 0, none⟩), .pointer (some ⟨vb, 0, none⟩)]] w fun e w' => e = .returned (.bool (!b)) ∧ Below w.heap.size w w' := by
  have H := Lib.hid h
  have HCP := Lib.hid hc
  have HOK := Lib.hid hok
  have HT := Lib.hid ht
  have HB := Lib.hid hb
  clear h hc hok ht hb
  go_enter Try.func83, Try.ntmps83
  go_wp2_with fail
  refine (indexHolds p q v rs sb vb u vals _ H.out HCP.out HOK.out HT.out).mono ?_
  rintro e w2 ⟨m, rfl, hm, hb2⟩
  have HB2 := Lib.hid hb2
  cases b with
  | true =>
    have hm0 : decide (m ≥ 0) = false := by
      have : ¬ 0 ≤ m := fun h => hm.1 h (HB.out.1 rfl)
      simpa using this
    have hm1 : ¬ m ≥ 0 := by simpa using hm0
    clear hm hb2
    go_wp2
    go_ret
    exact ⟨by first | rfl | simp [hm0], HB2.out⟩
  | false =>
    have hm0 : decide (m ≥ 0) = true := by
      have : 0 ≤ m := hm.2 fun h => absurd (HB.out.2 h) (by simp)
      simpa using this
    have hm1 : m ≥ 0 := by simpa using hm0
    clear hm hb2
    go_wp2
    go_ret
    exact ⟨by first | rfl | simp [hm0], HB2.out⟩

set_option linter.unusedSimpArgs false in
set_option maxHeartbeats 1000000 in
set_option maxRecDepth 100000 in
theorem implHoldsIn (p u : Int) (a : Option Addr) (n c : Nat) (rs : List (Int × List Int)) (v : Value) (vals : List Int) (b : Bool) (cd : Int) (w : World) (h : EqsAt w (.slice a n c) rs) (hv : RowAt w v vals) (hi : HoldsInIs p u rs vals b cd) :
    Calls Try.prog 23 #[.agg #[.int .i64 p, .int .i64 u, .slice a n c], v] w fun e w' => e = .returned (.tuple #[.bool b, .int .i64 cd]) ∧ Below w.heap.size w w' := by
  obtain ⟨a2, n2, c2, rfl⟩ : ∃ a n c, v = .slice a n c := by obtain ⟨a, c, rfl, _⟩ := hv; exact ⟨a, _, c, rfl⟩
  have HW : Hid (Below w.heap.size w ((w.alloc (.cells #[.int .i64 p, .int .i64 u, .slice a n c] 29)).alloc (.cells #[.slice a2 n2 c2] 34))) := Lib.hid (((Below.refl _ _).alloc (Nat.le_refl _) _).alloc (by simp) _)
  have HBX := Lib.hid ((Box.new 29 w #[.int .i64 p, .int .i64 u, .slice a n c]).below ((Below.refl _ _).alloc (Nat.le_refl _) (.cells #[.slice a2 n2 c2] 34)))
  have HBV : Hid (Box 34 ((w.alloc (.cells #[.int .i64 p, .int .i64 u, .slice a n c] 29)).alloc (.cells #[.slice a2 n2 c2] 34)) (w.heap.size + 1) #[.slice a2 n2 c2]) := Lib.hid (by
    have h := Box.new 34 (w.alloc (.cells #[.int .i64 p, .int .i64 u, .slice a n c] 29)) #[.slice a2 n2 c2]
    rwa [World.size_alloc] at h)
  have H := Lib.hid (h.below HW.out)
  have HV := Lib.hid (hv.below HW.out)
  have x0 := HBX.out.c 0 rfl
  have x1 := HBX.out.c 1 rfl
  have x2 := HBX.out.c 2 rfl
  have xv := HBV.out.c 0 rfl
  clear h hv
  rcases hi with ⟨h1, h2, rfl, h3⟩ | ⟨h1, h2, rfl, rfl⟩ | ⟨h1, rfl, rfl⟩
  · have HOK := Lib.hid h1
    have HT := Lib.hid h2
    have HB := Lib.hid h3
    clear h1 h2 h3
    go_enter Try.func23, Try.ntmps23
    go_wp2_with fail
    refine (implValidSystem _ _ _ _ _ rs true _ H.out (Tells.yes HOK.out)).mono ?_
    rintro e w2 ⟨rfl, hb2⟩
    have HB2 := Lib.hid hb2
    have y0 := below_cell hb2 x0
    have y1 := below_cell hb2 x1
    have y2 := below_cell hb2 x2
    have yv := below_cell hb2 xv
    clear hb2 x0 x1 x2 xv
    go_wp2_with fail
    refine (isListBelow _ vals _ _ true _ (HV.out.below HB2.out) (Tells.yes HT.out)).mono ?_
    rintro e w3 ⟨rfl, rfl⟩
    go_wp2_with fail
    refine (containsHolds p u _ rs _ _ (.slice a2 n2 c2) vals b _ (H.out.below HB2.out) ⟨y0, a2, n2, c2, rfl, yv, HV.out.below HB2.out⟩ HOK.out HT.out HB.out).mono ?_
    rintro e w4 ⟨rfl, hb4⟩
    have HB4 := Lib.hid (HB2.out.trans (hb4.mono HB2.out.size))
    clear hb4
    go_wp2
    go_ret2
    exact ⟨by simp, HW.out.trans (HB4.out.mono HW.out.size)⟩
  · have HOK := Lib.hid h1
    have HT := Lib.hid h2
    clear h1 h2
    go_enter Try.func23, Try.ntmps23
    go_wp2_with fail
    refine (implValidSystem _ _ _ _ _ rs true _ H.out (Tells.yes HOK.out)).mono ?_
    rintro e w2 ⟨rfl, hb2⟩
    have HB2 := Lib.hid hb2
    have y0 := below_cell hb2 x0
    have y1 := below_cell hb2 x1
    have yv := below_cell hb2 xv
    clear hb2 x0 x1 x2 xv
    go_wp2_with fail
    refine (isListBelow _ vals _ _ false _ (HV.out.below HB2.out) (Tells.no HT.out)).mono ?_
    rintro e w3 ⟨rfl, rfl⟩
    go_wp2
    go_ret2
    exact ⟨rfl, HW.out.trans (HB2.out.mono HW.out.size)⟩
  · have HOK := Lib.hid h1
    clear h1
    go_enter Try.func23, Try.ntmps23
    go_wp2_with fail
    refine (implValidSystem _ _ _ _ _ rs false _ H.out (Tells.no HOK.out)).mono ?_
    rintro e w2 ⟨rfl, hb2⟩
    have HB2 := Lib.hid hb2
    clear hb2 x0 x1 x2 xv
    go_wp2
    go_ret2
    exact ⟨rfl, HW.out.trans (HB2.out.mono HW.out.size)⟩

end Go.Proofs.Ytadpnckpgpamiaa
