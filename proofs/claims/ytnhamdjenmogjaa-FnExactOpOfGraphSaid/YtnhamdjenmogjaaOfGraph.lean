/-
  OpOfGraph of the model and of the program; grids whose rows have room for what they hold.
-/
import Derived.Test.YtnhamdjenmogjaaTab
import Derived.Test.YtnhamdjenmogjaaApplyOp
import Derived.Test.YtnhamdjenmogjaaOpen
import Derived.Test.YtnhamdjenmogjaaDepends
import Derived.Test.YtnhamdjenmogjaaApplyT
import Derived.Deep.AppendLies
namespace Go.Proofs.Ytnhamdjenmogjaa
open Go.ChangeShapes Go.WideShapes Go.ChangeAt Go.RowKit Go.Joins
open Go.Deep (open_int_rows)

/-- A grid of which each row's slice has at least the capacity of its length. -/
def GridC (w : World) (v : Value) (xss : List (List Int)) : Prop :=
  ∃ V : Nat → Value, SlAt w v xss.length V ∧ ∀ i, i < xss.length → RowAt w (V i) (rowN xss i) ∧ ∃ a n c, V i = .slice a n c ∧ n ≤ c
theorem GridC.grid {w : World} {v : Value} {xss : List (List Int)} (h : GridC w v xss) : GridAt w v xss := by
  obtain ⟨V, h1, h2⟩ := h
  exact ⟨V, h1, fun i hi => (h2 i hi).1⟩
theorem GridC.below {w w' : World} {v : Value} {xss : List (List Int)} (h : GridC w v xss) (hb : Below w.heap.size w w') : GridC w' v xss := by
  obtain ⟨V, h1, h2⟩ := h
  exact ⟨V, h1.below hb, fun i hi => ⟨(h2 i hi).1.below hb, (h2 i hi).2⟩⟩
theorem lives_gridC (v : Value) (xss : List (List Int)) : Lives (fun w => GridC w v xss) := fun _ _ hb h => h.below hb
theorem stab_gridC {w : World} {v : Value} {xss : List (List Int)} (h : GridC w v xss) : Stab 0 w.heap.size (fun w => GridC w v xss) w := stab_lives fun _ _ h2 => by
  obtain ⟨V, h1, h3⟩ := h
  exact ⟨V, h1.same h2, fun i hi => ⟨(h3 i hi).1.same h2, (h3 i hi).2⟩⟩
theorem OwnGrid.gridC {w : World} {B E : Nat} {v : Value} {xss : List (List Int)} (h : OwnGrid w B E v xss) : GridC w v xss := by
  obtain ⟨V, h⟩ := h
  refine ⟨V, ?_, fun i hi => ⟨(h.rows i hi).rowAt, ?_⟩⟩
  · rcases ownsRow_parts h.outer with ⟨rfl, hn, _⟩ | ⟨g, c, rfl, _, _, h1, h2, _, hc⟩
    · exact ⟨none, 0, by rw [hn], by omega, fun h0 => by omega⟩
    · refine ⟨some ⟨g, 0, none⟩, c, rfl, by unfold maxLen at h2; omega, fun _ => ⟨g, 0, rfl, fun i hi => ?_⟩⟩
      rw [Nat.zero_add]
      exact hc i _ (range_map_at hi)
  · rcases ownsRow_parts (h.rows i hi) with ⟨hv, _, _⟩ | ⟨g, c, hv, _, _, h1, _⟩
    · exact ⟨_, _, _, hv, Nat.le_refl _⟩
    · exact ⟨_, _, _, hv, h1⟩

section
variable {H : Type} {enc : TypeId × Value → H} {w : World} {base : Nat} {held : Bool}
/-- A slice of slices of integers that came in. -/
theorem open_gridC {fuel : Nat} {v : Value} {x : DataW H × List MemPlace} (h : DataW.trod enc Try.prog w base (fun _ => true) held fuel 46 [v] = some x) :
    ∃ a n c xss, v = .slice a n c ∧ GridC w (.slice a n c) xss := by
  rcases open_int_rows Try.underlying46 Try.underlying22 Try.underlying2 cells_row cells_int h with ⟨hcs, _⟩ | ⟨a, len, cap, A, L, C, Z, hcs, _, hl, hm, _, hr⟩
  · obtain rfl : v = .slice none 0 0 := by simpa using hcs
    exact ⟨none, 0, 0, [], rfl, fun _ => .slice none 0 0, ⟨none, 0, rfl, by simp, fun h => absurd h (by simp)⟩, fun i hi => absurd hi (by simp)⟩
  · obtain rfl : v = .slice (some a) len cap := by simpa using hcs
    have hlen : ((List.range len).map fun r => (Z r).take (L r)).length = len := by simp
    refine ⟨some a, len, cap, (List.range len).map fun r => (Z r).take (L r), rfl, fun r => .slice (A r) (L r) (C r), ⟨some a, cap, by rw [hlen], ?_, fun h0 => ?_⟩, fun i hi => ?_⟩
    · rw [hlen]; unfold maxLen at hm; omega
    · rw [hlen] at h0 ⊢
      obtain ⟨b, off, rfl⟩ := add_none (hr 0 (by omega)).1
      exact ⟨b, off, rfl, fun i hi => by have := (hr i (by omega)).1; rwa [add_plain] at this⟩
    · rw [hlen] at hi
      obtain ⟨_, h1, h2, h3, _, h5, h6⟩ := hr i (by omega)
      have e : rowN ((List.range len).map fun r => (Z r).take (L r)) i = (Z i).take (L i) := by
        rw [rowN_at _ _ (by rw [hlen]; exact hi)]; simp
      rw [e]
      have hz : ((Z i).take (L i)).length = L i := by simp; omega
      refine ⟨⟨A i, C i, by rw [hz], by rw [hz]; unfold maxLen at h2; omega, fun h0 => ?_⟩, _, _, _, rfl, h1⟩
      rw [hz] at h0 ⊢
      match hA : A i with
      | none => have := h5 hA; omega
      | some a' =>
        obtain ⟨_, hc⟩ := h6 a' hA
        obtain ⟨b, off, rfl⟩ := add_none (hc 0 (by omega))
        refine ⟨b, off, rfl, fun j hj => ?_⟩
        have := hc j (by omega)
        rw [add_plain] at this
        rw [this]
        show _ = some (Value.int .i64 (intN _ j))
        rw [intN_at _ _ (by rw [hz]; exact hj)]
        simp [List.getD, show j < (Z i).length by omega]
set_option maxRecDepth 100000 in
/-- A relation that came in, by value. -/
theorem open_relC {r : Reach} {b0 : Nat} {v : Value} {d : DataW H} {p : List MemPlace} (hv : Value.okWide Try.prog w r b0 48 v)
    (h : DataW.Trod enc Try.prog w base (fun _ => true) held 48 v d p) : ∃ ar a n c xss, v = .agg #[.int .i64 ar, .slice a n c] ∧ GridC w (.slice a n c) xss := by
  obtain ⟨v0, v1, y0, y1, m, rfl, rfl, rfl, h0, h1⟩ := open_agg2 Try.underlying48 (by kernel_rfl) cells_rel hv h
  obtain ⟨ar, e0, _, _⟩ := DataW.trod_int Try.underlying2 h0
  obtain ⟨a, n, c, xss, rfl, hg⟩ := open_gridC h1
  simp at e0
  subst e0
  exact ⟨ar, a, n, c, xss, rfl, hg⟩
end

/-- What OpOfGraph answers. -/
def OpOfGraphIs (size ar : Int) (xss : List (List Int)) (x : Int) (t : List Int) (cd : Int) : Prop :=
  (RelOk size ar xss ∧ ar ≠ 1 ∧ (xss.length = size.toNat ^ (ar - 1).toNat ∧ ∀ k, k < xss.length → codeN size ((rowN xss k).take (ar - 1).toNat) = k) ∧ x = ar - 1 ∧ t = rowF (fun i => intN (rowN xss i) (ar - 1).toNat) xss.length ∧ cd = 0)
  ∨ (RelOk size ar xss ∧ ar ≠ 1 ∧ ¬ (xss.length = size.toNat ^ (ar - 1).toNat ∧ ∀ k, k < xss.length → codeN size ((rowN xss k).take (ar - 1).toNat) = k) ∧ x = 0 ∧ t = [] ∧ cd = 4)
  ∨ (RelOk size ar xss ∧ ar = 1 ∧ x = 0 ∧ t = [] ∧ cd = 2)
  ∨ (¬ RelOk size ar xss ∧ x = 0 ∧ t = [] ∧ cd = 1)
theorem OpOfGraphIs.exists (size ar : Int) (xss : List (List Int)) : ∃ x t cd, OpOfGraphIs size ar xss x t cd := by
  by_cases h1 : RelOk size ar xss
  · by_cases h2 : ar = 1
    · exact ⟨_, _, _, .inr (.inr (.inl ⟨h1, h2, rfl, rfl, rfl⟩))⟩
    · by_cases h3 : (xss.length = size.toNat ^ (ar - 1).toNat ∧ ∀ k, k < xss.length → codeN size ((rowN xss k).take (ar - 1).toNat) = k)
      · exact ⟨_, _, _, .inl ⟨h1, h2, h3, rfl, rfl, rfl⟩⟩
      · exact ⟨_, _, _, .inr (.inl ⟨h1, h2, h3, rfl, rfl, rfl⟩)⟩
  · exact ⟨_, _, _, .inr (.inr (.inr ⟨h1, rfl, rfl, rfl⟩))⟩
theorem OpOfGraphIs.small {size ar : Int} {xss : List (List Int)} {x : Int} {t : List Int} {cd : Int} (h : OpOfGraphIs size ar xss x t cd) : t.length ≤ 1048576 := by
  rcases h with ⟨h1, h2, h3, -, rfl, -⟩ | ⟨-, -, -, -, rfl, -⟩ | ⟨-, -, -, rfl, -⟩ | ⟨-, -, rfl, -⟩
  · have := (pow_le3 (s := size.toNat) (r := (ar - 1).toNat) (by have := h1.1.1; omega) (by have := h1.1.2; omega) (by have := h1.2.1.2; omega)).1
    rw [rowF_len, h3.1]; omega
  · simp
  · simp
  · simp
theorem own_awayG {w : World} {B e sz n : Nat} {v : Value} {xs : List Value} (h : w.ownsRow B e sz v n xs) (p : Nat) (hp : p < B) : v.ownBlock ≠ some p := fun e' => by have := (h.lt p e').1; omega
theorem intN_take (xs : List Int) (r i : Nat) (h : i < r) : intN (xs.take r) i = intN xs i := by
  simp [intN, List.getD, h]
theorem rowAt_take {w : World} {b off n c : Nat} {xs : List Int} {r : Nat} (h : RowAt w (.slice (some ⟨b, off, none⟩) n c) xs) (hr : r ≤ xs.length) : RowAt w (.slice (some ⟨b, off, none⟩) r c) (xs.take r) := by
  obtain ⟨a', c', hv, hn, hc⟩ := h
  simp only [Value.slice.injEq] at hv
  obtain ⟨rfl, rfl, rfl⟩ := hv
  have hl : (xs.take r).length = r := by rw [List.length_take]; omega
  refine ⟨_, c, by rw [hl], by rw [hl]; omega, fun h0 => ?_⟩
  rw [hl] at h0
  obtain ⟨b', off', ha, hcell⟩ := hc (by omega)
  refine ⟨b', off', ha, fun i hi => ?_⟩
  rw [hl] at hi
  show _ = some (Value.int .i64 (intN (xs.take r) i))
  rw [intN_take _ _ _ hi]
  exact hcell i (by omega)
theorem tup_take {s : Int} {r : Nat} {xs : List Int} (h : TupP s ((r : Int) + 1) xs) : TupP s (r : Int) (xs.take r) := by
  have h1 := h.1
  refine ⟨by rw [List.length_take]; omega, fun k hk => ?_⟩
  rw [List.length_take] at hk
  rw [intN_take _ _ _ (by omega)]
  exact h.2 k (by omega)
theorem numberOfG (v : Value) (xs : List Int) (ar size : Int) (m : Nat) (w : World) (h : RowAt w v xs) (hs : In14 size) (har : In14 ar) (ht : TupP size ar xs) (hm : codeN size xs = m) :
    Calls Try.prog 74 #[.int .i64 size, v] w fun e w' => e = .returned (.int .i64 (m : Int)) ∧ w = w' := hm ▸ numberOf' v xs ar size w h hs har ht
theorem l01CodeG (v : Value) (xs : List Int) (ar size : Int) (m : Nat) (w : World) (h : RowAt w v xs) (hs : In14 size) (har : In14 ar) (ht : TupP size ar xs) (hm : codeN size xs = m) :
    Calls Try.prog 71 #[.int .i64 size, v] w fun e w' => e = .returned (.int .i64 (m : Int)) ∧ w = w' := hm ▸ l01Code v xs ar size w h hs har ht


set_option linter.unusedSimpArgs false in
set_option maxHeartbeats 1600000 in
set_option maxRecDepth 100000 in
theorem specOpOfGraph (size ar : Int) (a : Option Addr) (n c : Nat) (xss : List (List Int)) (x : Int) (t : List Int) (cd : Int) (w : World) (h : GridC w (.slice a n c) xss) (hi : OpOfGraphIs size ar xss x t cd) :
    Calls Try.prog 30 #[.int .i64 size, .agg #[.int .i64 ar, .slice a n c]] w (MadeOp2 w x t cd) := by
  obtain rfl : n = xss.length := by obtain ⟨_, ⟨_, _, hv, _⟩, _⟩ := h; simp only [Value.slice.injEq] at hv; exact hv.2.1
  obtain ⟨i0, hi0, hz0, hz1, hz2⟩ := info_parts info_intT
  have hxl : xss.length ≤ 9223372036854775807 := by obtain ⟨_, ⟨_, _, _, hn, _⟩, _⟩ := h; exact hn
  have HR0 : Hid (Box 24 _ (w.heap.size + 1) #[.int .i64 0, .slice none 0 0]) := Lib.hid (by
    have h := Box.new 24 (w.alloc (.cells #[.int .i64 ar, .slice a xss.length c] 51)) #[.int .i64 0, .slice none 0 0]
    rwa [World.size_alloc] at h)
  have K0 := Lib.hid (((((Kept.start w).read (lives_gridC _ _) h).box w.heap.size rfl (.int .i64 ar) (.slice a xss.length c) 51)).below ((Below.refl _ _).alloc (Nat.le_refl _) (.cells #[.int .i64 0, .slice none 0 0] 24)))
  have ck0 := K0.out.c 0 rfl
  have ck1 := K0.out.c 1 rfl
  have HP : Hid (RelAt _ w.heap.size 0 ar xss) := Lib.hid ⟨K0.out.c 0 rfl, _, _, _, K0.out.c 1 rfl, GridC.grid (K0.out.r 0 rfl :)⟩
  clear h
  rcases hi with ⟨ho, hne, hgd, rfl, rfl, rfl⟩ | ⟨ho, hne, hgd, rfl, rfl, rfl⟩ | ⟨ho, rfl, rfl, rfl, rfl⟩ | ⟨ho, rfl, rfl, rfl⟩
  · have HO := Lib.hid (Tells.yes ho)
    obtain ⟨s, rfl⟩ : ∃ s : Nat, size = s := ⟨size.toNat, by have := ho.1.1; omega⟩
    obtain ⟨r, rfl⟩ : ∃ r : Nat, ar = (r : Int) + 1 := ⟨(ar - 1).toNat, by have := ho.2.1.1; omega⟩
    have h1 : 1 ≤ s := by have := ho.1.1; omega
    have h2 : s ≤ 4 := by have := ho.1.2; omega
    have h3 : 1 ≤ r := by omega
    have h4 : r ≤ 3 := by have := ho.2.1.2; omega
    have hs14 : In14 (s : Int) := ho.1
    have hr14 : In14 (r : Int) := ⟨by omega, by omega⟩
    have hne1 : (((r : Int) + 1) == 1) = false := by simp; omega
    have hcast : ((r : Int) + 1) - 1 = (r : Int) := by omega
    have HTUP : Hid (∀ k, k < xss.length → TupP s ((r : Int) + 1) (rowN xss k)) := Lib.hid (fun k hk => (ho.2.2 k hk).1)
    obtain ⟨q, hq⟩ : ∃ q, s ^ r = q := ⟨_, rfl⟩
    have h64 : q ≤ 64 := by rw [← hq]; exact (pow_le3 h1 h2 h4).1
    have hq1 : 1 ≤ q := by rw [← hq]; exact (pow_le3 h1 h2 h4).2
    have HQ := Lib.hid hq

    simp only [hcast, Int.toNat_natCast] at hgd ⊢
    clear hcast
    have hlq : xss.length = q := by rw [← hq]; simpa using hgd.1
    have HGD := Lib.hid hgd.2
    have hlnb : ((xss.length : Int) != (q : Int)) = false := by simp; omega
    have hl1 : 1 ≤ xss.length := by omega
    have hl64 : xss.length ≤ 64 := by omega
    clear ho hne hgd hq hlq
    obtain ⟨bg, og, rfl⟩ : ∃ bg og, a = some ⟨bg, og, none⟩ := by
      obtain ⟨V, ⟨a', c', hv, hn, hc⟩, -⟩ := (K0.out.r 0 rfl : GridC _ (.slice a xss.length c) xss)
      simp only [Value.slice.injEq] at hv
      obtain ⟨rfl, _, _⟩ := hv
      obtain ⟨b, off, rfl, _⟩ := hc (by omega)
      exact ⟨b, off, rfl⟩
    go_enter Try.func30, Try.ntmps30
    go_wp2_with fail
    refine (l01Ok _ _ _ _ xss true _ HP.out HO.out).mono ?_
    rintro e w1 ⟨rfl, hq1⟩
    have hb1 := hq1.bel
    have hsz1 : w.heap.size + 2 ≤ w1.heap.size := by have := hb1.size; simpa using this
    have K1 := Lib.hid (K0.out.below hb1)
    have HR1 := Lib.hid (HR0.out.below hb1)
    have cc0 := K1.out.c 0 rfl
    have cc1 := K1.out.c 1 rfl
    clear hb1 ck0 ck1
    clear hq1
    have HBX0 := Lib.hid (Box.new 24 w1 #[.int .i64 r, .slice none 0 0])
    have cc1a := below_cell ((Below.refl w1.heap.size w1).alloc (Nat.le_refl _) (.cells #[.int .i64 r, .slice none 0 0] 24)) cc1
    have cf0 := HBX0.out.c 0 rfl
    go_wp2
    go_quiet ((go_at_call 63; exact QW.calls_same (l01Power' s r q h1 h2 (by omega) HQ.out _)))
    go_wp2
    clear cc0 cc1 cc1a cf0
    go_loopw [7] (fun i wr => ∃ (k : Nat) (a : Option Addr) (n c : Nat), k ≤ xss.length ∧ i = .int .i64 k ∧ (∀ j, j < k → codeN s ((rowN xss j).take r) = j) ∧ Box 24 wr w1.heap.size #[.int .i64 r, .slice a n c] ∧ wr.ownsRow (w1.heap.size + 1) 2 1 (.slice a n c) k ((rowF (fun i => intN (rowN xss i) r) k).map (Value.int .i64)) ∧ Below w1.heap.size w1 wr ∧ w1.heap.size + 1 ≤ wr.heap.size) (fun i _ => xss.length - (intOf i).toNat)
    case atStart =>
      exact ⟨0, none, 0, 0, Nat.zero_le _, rfl, fun j hj => absurd hj (Nat.not_lt_zero _), HBX0.out.below (((QW.refl _).drewN _).below _), World.ownsRow_nil _ _ _ 1, ((Below.refl _ _).alloc (Nat.le_refl _) _).trans ((((QW.refl _).drewN _).below _)), by simp⟩
    case round =>
      obtain ⟨k, ao, no, co, hk, rfl, hall, hbx, hown, hbel, hsz⟩ := hrel
      have HALL := Lib.hid hall
      have HBX := Lib.hid hbx
      have HO9 := Lib.hid hown
      have HW := Lib.hid hbel
      have KR := Lib.hid (K1.out.below hbel)
      have HRR := Lib.hid (HR1.out.below hbel)
      have g1 := KR.out.c 1 rfl
      clear hall hbx hown hbel
      by_cases hlt : k < xss.length
      · have hlt' : (k : Int) < (xss.length : Int) := by omega
        obtain ⟨V, hS, hV⟩ := (KR.out.r 0 rfl : GridC wr (.slice (some ⟨bg, og, none⟩) xss.length c) xss)
        have hx0 := SlAt.vcell hS k hlt
        obtain ⟨hrow, a3, n3, c3, hv3, hcap⟩ := hV k hlt
        rw [hv3] at hx0 hrow
        have ht := HTUP.out k hlt
        have hln : (rowN xss k).length = r + 1 := by have := ht.1; omega
        obtain ⟨b3, off3, rfl, rfl, -⟩ := SlAt.some_of hrow 0 (by omega)
        have dx := SlAt.cell_of hrow r (by omega)
        rw [hln] at hx0 hcap
        have HRT : Hid (RowAt wr (.slice (some ⟨b3, off3, none⟩) r c3) ((rowN xss k).take r)) := Lib.hid (rowAt_take hrow (by omega))
        have HTT : Hid (TupP s (r : Int) ((rowN xss k).take r)) := Lib.hid (tup_take ht)
        have hcapI : (r : Int) ≤ (c3 : Int) := by omega
        have hrI : (r : Int) < ((r + 1 : Nat) : Int) := by omega
        have hrI2 : (r : Int) < (r : Int) + 1 := by omega
        have d0 := HBX.out.c 0 rfl
        have d1 := HBX.out.c 1 rfl
        clear hS hV hv3 hrow ht hln
        have HCK := Lib.hid (HGD.out k hlt)
        have HEQ := Lib.hid (HGD.out k hlt)
        have hckb : ((k : Int) != (k : Int)) = false := by simp
        go_wp2_with fail
        refine (l01CodeG _ ((rowN xss k).take r) (r : Int) s k _ (HRT.out) hs14 hr14 (HTT.out) HCK.out).mono ?_
        rintro e w3 ⟨rfl, rfl⟩
        go_wp2
        refine wp_region_noPanic ?_
        refine wp_region_late (S := (fun w' => w'.cell? ⟨w1.heap.size, 1, none⟩ = some (.slice ao no co) ∧ w'.cell? ⟨w1.heap.size, 0, none⟩ = some (.int .i64 r) ∧ w'.cell? ⟨b3, off3 + r, none⟩ = some (.int .i64 (intN (rowN xss k) r)))) [8, 10] (by kernel_rfl) ?_ (fun hHeld => ?_)
        · exact ⟨d1, d0, dx⟩
        refine wpAnyL_free (i := 0) (v := ?_) (some 51) rfl rfl (by kernel_rfl) (by kernel_rfl) (by kernel_rfl) (by decide) (fun _ _ _ h => h) (Or.inl ⟨by rfl, ?_⟩) (fun h0 => by assumption) ?_
        rotate_left
        · intro wS
          go_simp
          try with_reducible rfl
        try simp only [Act.put, List.setIfInBounds_toArray, List.set_cons_zero, List.set_cons_succ]
        refine wpAnyL_take (i := 1) (v := ?_) (some 52) rfl rfl (by kernel_rfl) (by kernel_rfl) (by kernel_rfl) (by kernel_rfl) (by kernel_rfl) (fun _ _ _ h => h) (Or.inl ⟨by rfl, ?_⟩) (by assumption) ?_
        rotate_left
        · intro wS hSw
          try dsimp only at hSw
          go_simp
          try with_reducible rfl
        try simp only [Act.put, List.setIfInBounds_toArray, List.set_cons_zero, List.set_cons_succ]
        refine wpAnyL_free (i := 2) (v := ?_) (some 53) rfl rfl (by kernel_rfl) (by kernel_rfl) (by kernel_rfl) (by decide) (fun _ _ _ h => h) (Or.inl ⟨by rfl, ?_⟩) (fun h0 => by assumption) ?_
        rotate_left
        · intro wS
          go_simp
          try with_reducible rfl
        try simp only [Act.put, List.setIfInBounds_toArray, List.set_cons_zero, List.set_cons_succ]
        refine wpAnyL_free (i := 3) (v := ?_) (some 54) rfl rfl (by kernel_rfl) (by kernel_rfl) (by kernel_rfl) (by decide) (fun _ _ _ h => h) (Or.inl ⟨by rfl, ?_⟩) (fun h0 => by assumption) ?_
        rotate_left
        · intro wS
          go_simp
          try with_reducible rfl
        try simp only [Act.put, List.setIfInBounds_toArray, List.set_cons_zero, List.set_cons_succ]
        refine wpAnyL_take (i := 4) (v := ?_) (some 55) rfl rfl (by kernel_rfl) (by kernel_rfl) (by kernel_rfl) (by kernel_rfl) (by kernel_rfl) (fun _ _ _ h => h) (Or.inl ⟨by rfl, ?_⟩) (by assumption) ?_
        rotate_left
        · intro wS hSw
          try dsimp only at hSw
          go_simp
          try with_reducible rfl
        try simp only [Act.put, List.setIfInBounds_toArray, List.set_cons_zero, List.set_cons_succ]
        refine wpAnyL_free (i := 5) (v := ?_) (some 56) rfl rfl (by kernel_rfl) (by kernel_rfl) (by kernel_rfl) (by decide) (fun _ _ _ h => h) (Or.inl ⟨by rfl, ?_⟩) (fun h0 => by assumption) ?_
        rotate_left
        · intro wS
          go_simp
          try with_reducible rfl
        try simp only [Act.put, List.setIfInBounds_toArray, List.set_cons_zero, List.set_cons_succ]
        refine wpAnyL_take (i := 6) (v := ?_) (some 57) rfl rfl (by kernel_rfl) (by kernel_rfl) (by kernel_rfl) (by kernel_rfl) (by kernel_rfl) (fun _ _ _ h => h) (Or.inl ⟨by rfl, ?_⟩) (by assumption) ?_
        rotate_left
        · intro wS hSw
          try dsimp only at hSw
          go_simp
          try with_reducible rfl
        try simp only [Act.put, List.setIfInBounds_toArray, List.set_cons_zero, List.set_cons_succ]
        refine wpAnyL_ready (rs := [7]) (by kernel_rfl) (by simp) ?_
        refine AllReadyL.cons rfl (fun K hK => ?_) AllReadyL.nil
        go_simp
        refine hK.out _ _ ?_ (fun hHeld => ?_)
        · exact ⟨below_cell ((Below.refl _ _).alloc (Nat.le_refl _) _) hHeld.1, below_cell ((Below.refl _ _).alloc (Nat.le_refl _) _) hHeld.2.1, below_cell ((Below.refl _ _).alloc (Nat.le_refl _) _) hHeld.2.2⟩
        clear hK K
        try simp only [Act.put, List.setIfInBounds_toArray, List.set_cons_zero, List.set_cons_succ]
        refine wpAnyL_ready (rs := [8]) (by kernel_rfl) (by simp) ?_
        refine AllReadyL.last rfl (by kernel_rfl) (fun K hK => ?_) AllReadyL.nil
        have HAL := Lib.hid (((QW.refl wr).drew.below wr.heap.size).trans (((Below.refl wr.drew.heap.size wr.drew).alloc (Nat.le_refl _) (.cells #[.int .i64 (intN (rowN xss k) r)] 2))))
        refine step_append_lies _ (by rfl) _ _ 22 (by rfl) (w1.heap.size + 1) 2 i0 (.int .i64 0) 1 8 Try.underlying22 hi0 hz0 hz1 hz2 (by rfl) (by decide) (.slice ao no co) k _ (by rfl) (ownsRow_below HO9.out HAL.out) _ 1 1 [.int .i64 (intN (rowN xss k) r)] (by rfl) (by rfl) (fun j u hu => World.news_of_block (heap_alloc_new wr.drew _) j u (by simpa using hu)) (by simp [Value.oneCell']) (by omega) (by unfold maxLen; omega) (by omega) (Nat.le_trans hsz HAL.out.size) _ rfl ?_; intro g5 cap5 w6 hown5 hgrow5 hat5 hlt5
        have HBX5 := Lib.hid ((HBX.out.below HAL.out).grown hgrow5 (own_awayG HO9.out w1.heap.size (by omega)))
        have HW5 := Lib.hid ((HW.out.trans (HAL.out.mono HW.out.size)).grown hgrow5 (by have := HAL.out.size; have := HW.out.size; omega) (fun g hg => by have := (HO9.out.lt g hg).1; omega))
        have HO5 := Lib.hid hown5
        have HS5 := Lib.hid (Nat.le_trans HAL.out.size hgrow5.size)
        have k1 := HBX5.out.c 1 rfl
        have kf := HBX5.out.free 1
        clear hown5 hgrow5 hat5 hlt5 HAL
        refine hK.out _ _ ?_
        clear hK K
        try simp only [Act.put, List.setIfInBounds_toArray, List.set_cons_zero, List.set_cons_succ]
        refine wpAnyL_free (i := 9) (v := ?_) (some 60) rfl rfl (by kernel_rfl) (by kernel_rfl) (by kernel_rfl) (by decide) (fun _ _ _ h => h) (Or.inl ⟨by rfl, ?_⟩) (fun h0 => absurd h0 (by decide)) ?_
        rotate_left
        · intro wS
          go_simp
          try with_reducible rfl
        try simp only [Act.put, List.setIfInBounds_toArray, List.set_cons_zero, List.set_cons_succ]
        refine wpAnyL_ready (rs := [10]) (by kernel_rfl) (by simp) ?_
        refine AllReadyL.last rfl (by kernel_rfl) (fun K hK => ?_) AllReadyL.nil
        go_simp
        refine hK.out _ _ ?_
        clear hK K
        try simp only [Act.put, List.setIfInBounds_toArray, List.set_cons_zero, List.set_cons_succ]
        refine wpAnyL_done (by kernel_rfl) ?_ _
        refine NoPanic.normal ?_
        go_wp2
        go_roundw
        case rel =>
          refine ⟨k + 1, _, _, _, by omega, by go_num, fun j hj => ?_, HBX5.out.set 1 _, ?_, HW5.out.setCell (p := ⟨w1.heap.size, 1, none⟩) (Nat.le_refl _) _, by have := HS5.out; simp [World.setCell]; omega⟩
          · by_cases hjk : j = k
            · subst hjk; exact HEQ.out
            · exact HALL.out j (by omega)
          · rw [rowF_succ]
            exact ownsRow_same HO5.out fun g hg => Below.heap_setCell _ _ _ _ (by have := (HO5.out.lt g hg).1; show g ≠ w1.heap.size; omega)
        case measure => simp [intOf]; omega

      · obtain rfl : k = xss.length := by omega
        have hm : no = xss.length := by
          rcases ownsRow_parts HO9.out with ⟨hv, h0, _⟩ | ⟨_, _, hv, _⟩ <;> simp only [Value.slice.injEq] at hv <;> omega
        subst hm
        have HE : Hid (OwnRow wr (w1.heap.size + 1) (.slice ao xss.length co) (rowF (fun i => intN (rowN xss i) r) xss.length)) := by
          show World.ownsRow _ _ _ _ _ _ _
          rw [rowF_len]
          exact HO9.out
        have d0 := HBX.out.c 0 rfl
        have d1 := HBX.out.c 1 rfl
        have e0 := HRR.out.c 0 rfl
        have e1 := HRR.out.c 1 rfl
        have f0 := HRR.out.free 0
        have f1 := HRR.out.free 1
        go_wp2
        refine bodyPost_ret (v := .tuple #[.agg #[.int .i64 r, .slice ao xss.length co], .int .i64 0]) (by simp [results, Try.results30, go_sem, e0, e1]) rfl ⟨_, _, _, rfl, ?_, ?_⟩
        · exact (((HE.out.stored (by show w.heap.size + 1 < w1.heap.size + 1; omega) _).stored (by show w.heap.size + 1 < w1.heap.size + 1; omega) _).mono (by omega)).full
        · exact (KR.out.bel.setCell (by show w.heap.size ≤ w.heap.size + 1; omega) _).setCell (by show w.heap.size ≤ w.heap.size + 1; omega) _
  · have HO := Lib.hid (Tells.yes ho)
    obtain ⟨s, rfl⟩ : ∃ s : Nat, size = s := ⟨size.toNat, by have := ho.1.1; omega⟩
    obtain ⟨r, rfl⟩ : ∃ r : Nat, ar = (r : Int) + 1 := ⟨(ar - 1).toNat, by have := ho.2.1.1; omega⟩
    have h1 : 1 ≤ s := by have := ho.1.1; omega
    have h2 : s ≤ 4 := by have := ho.1.2; omega
    have h3 : 1 ≤ r := by omega
    have h4 : r ≤ 3 := by have := ho.2.1.2; omega
    have hs14 : In14 (s : Int) := ho.1
    have hr14 : In14 (r : Int) := ⟨by omega, by omega⟩
    have hne1 : (((r : Int) + 1) == 1) = false := by simp; omega
    have hcast : ((r : Int) + 1) - 1 = (r : Int) := by omega
    have HTUP : Hid (∀ k, k < xss.length → TupP s ((r : Int) + 1) (rowN xss k)) := Lib.hid (fun k hk => (ho.2.2 k hk).1)
    obtain ⟨q, hq⟩ : ∃ q, s ^ r = q := ⟨_, rfl⟩
    have h64 : q ≤ 64 := by rw [← hq]; exact (pow_le3 h1 h2 h4).1
    have hq1 : 1 ≤ q := by rw [← hq]; exact (pow_le3 h1 h2 h4).2
    have HQ := Lib.hid hq

    simp only [hcast, Int.toNat_natCast] at hgd ⊢
    clear hcast
    by_cases hlq : xss.length = q
    · have HGD : Hid (¬ ∀ k, k < xss.length → codeN s ((rowN xss k).take r) = k) := Lib.hid (fun h => hgd ⟨by rw [hq]; exact hlq, h⟩)
      have hlnb : ((xss.length : Int) != (q : Int)) = false := by simp; omega
      have hl1 : 1 ≤ xss.length := by omega
      have hl64 : xss.length ≤ 64 := by omega
      clear ho hne hgd hq hlq
      obtain ⟨bg, og, rfl⟩ : ∃ bg og, a = some ⟨bg, og, none⟩ := by
        obtain ⟨V, ⟨a', c', hv, hn, hc⟩, -⟩ := (K0.out.r 0 rfl : GridC _ (.slice a xss.length c) xss)
        simp only [Value.slice.injEq] at hv
        obtain ⟨rfl, _, _⟩ := hv
        obtain ⟨b, off, rfl, _⟩ := hc (by omega)
        exact ⟨b, off, rfl⟩
      go_enter Try.func30, Try.ntmps30
      go_wp2_with fail
      refine (l01Ok _ _ _ _ xss true _ HP.out HO.out).mono ?_
      rintro e w1 ⟨rfl, hq1⟩
      have hb1 := hq1.bel
      have hsz1 : w.heap.size + 2 ≤ w1.heap.size := by have := hb1.size; simpa using this
      have K1 := Lib.hid (K0.out.below hb1)
      have HR1 := Lib.hid (HR0.out.below hb1)
      have cc0 := K1.out.c 0 rfl
      have cc1 := K1.out.c 1 rfl
      clear hb1 ck0 ck1
      clear hq1
      have HBX0 := Lib.hid (Box.new 24 w1 #[.int .i64 r, .slice none 0 0])
      have cc1a := below_cell ((Below.refl w1.heap.size w1).alloc (Nat.le_refl _) (.cells #[.int .i64 r, .slice none 0 0] 24)) cc1
      have cf0 := HBX0.out.c 0 rfl
      go_wp2
      go_quiet ((go_at_call 63; exact QW.calls_same (l01Power' s r q h1 h2 (by omega) HQ.out _)))
      go_wp2
      clear cc0 cc1 cc1a cf0
      go_loopw [7] (fun i wr => ∃ (k : Nat) (a : Option Addr) (n c : Nat), k ≤ xss.length ∧ i = .int .i64 k ∧ (∀ j, j < k → codeN s ((rowN xss j).take r) = j) ∧ Box 24 wr w1.heap.size #[.int .i64 r, .slice a n c] ∧ wr.ownsRow (w1.heap.size + 1) 2 1 (.slice a n c) k ((rowF (fun i => intN (rowN xss i) r) k).map (Value.int .i64)) ∧ Below w1.heap.size w1 wr ∧ w1.heap.size + 1 ≤ wr.heap.size) (fun i _ => xss.length - (intOf i).toNat)
      case atStart =>
        exact ⟨0, none, 0, 0, Nat.zero_le _, rfl, fun j hj => absurd hj (Nat.not_lt_zero _), HBX0.out.below (((QW.refl _).drewN _).below _), World.ownsRow_nil _ _ _ 1, ((Below.refl _ _).alloc (Nat.le_refl _) _).trans ((((QW.refl _).drewN _).below _)), by simp⟩
      case round =>
        obtain ⟨k, ao, no, co, hk, rfl, hall, hbx, hown, hbel, hsz⟩ := hrel
        have HALL := Lib.hid hall
        have HBX := Lib.hid hbx
        have HO9 := Lib.hid hown
        have HW := Lib.hid hbel
        have KR := Lib.hid (K1.out.below hbel)
        have HRR := Lib.hid (HR1.out.below hbel)
        have g1 := KR.out.c 1 rfl
        clear hall hbx hown hbel
        by_cases hlt : k < xss.length
        · have hlt' : (k : Int) < (xss.length : Int) := by omega
          obtain ⟨V, hS, hV⟩ := (KR.out.r 0 rfl : GridC wr (.slice (some ⟨bg, og, none⟩) xss.length c) xss)
          have hx0 := SlAt.vcell hS k hlt
          obtain ⟨hrow, a3, n3, c3, hv3, hcap⟩ := hV k hlt
          rw [hv3] at hx0 hrow
          have ht := HTUP.out k hlt
          have hln : (rowN xss k).length = r + 1 := by have := ht.1; omega
          obtain ⟨b3, off3, rfl, rfl, -⟩ := SlAt.some_of hrow 0 (by omega)
          have dx := SlAt.cell_of hrow r (by omega)
          rw [hln] at hx0 hcap
          have HRT : Hid (RowAt wr (.slice (some ⟨b3, off3, none⟩) r c3) ((rowN xss k).take r)) := Lib.hid (rowAt_take hrow (by omega))
          have HTT : Hid (TupP s (r : Int) ((rowN xss k).take r)) := Lib.hid (tup_take ht)
          have hcapI : (r : Int) ≤ (c3 : Int) := by omega
          have hrI : (r : Int) < ((r + 1 : Nat) : Int) := by omega
          have hrI2 : (r : Int) < (r : Int) + 1 := by omega
          have d0 := HBX.out.c 0 rfl
          have d1 := HBX.out.c 1 rfl
          clear hS hV hv3 hrow ht hln
          by_cases hck : codeN s ((rowN xss k).take r) = k
          · have HCK := Lib.hid hck
            have HEQ := Lib.hid hck
            clear hck
            have hckb : ((k : Int) != (k : Int)) = false := by simp
            go_wp2_with fail
            refine (l01CodeG _ ((rowN xss k).take r) (r : Int) s k _ (HRT.out) hs14 hr14 (HTT.out) HCK.out).mono ?_
            rintro e w3 ⟨rfl, rfl⟩
            go_wp2
            refine wp_region_noPanic ?_
            refine wp_region_late (S := (fun w' => w'.cell? ⟨w1.heap.size, 1, none⟩ = some (.slice ao no co) ∧ w'.cell? ⟨w1.heap.size, 0, none⟩ = some (.int .i64 r) ∧ w'.cell? ⟨b3, off3 + r, none⟩ = some (.int .i64 (intN (rowN xss k) r)))) [8, 10] (by kernel_rfl) ?_ (fun hHeld => ?_)
            · exact ⟨d1, d0, dx⟩
            refine wpAnyL_free (i := 0) (v := ?_) (some 51) rfl rfl (by kernel_rfl) (by kernel_rfl) (by kernel_rfl) (by decide) (fun _ _ _ h => h) (Or.inl ⟨by rfl, ?_⟩) (fun h0 => by assumption) ?_
            rotate_left
            · intro wS
              go_simp
              try with_reducible rfl
            try simp only [Act.put, List.setIfInBounds_toArray, List.set_cons_zero, List.set_cons_succ]
            refine wpAnyL_take (i := 1) (v := ?_) (some 52) rfl rfl (by kernel_rfl) (by kernel_rfl) (by kernel_rfl) (by kernel_rfl) (by kernel_rfl) (fun _ _ _ h => h) (Or.inl ⟨by rfl, ?_⟩) (by assumption) ?_
            rotate_left
            · intro wS hSw
              try dsimp only at hSw
              go_simp
              try with_reducible rfl
            try simp only [Act.put, List.setIfInBounds_toArray, List.set_cons_zero, List.set_cons_succ]
            refine wpAnyL_free (i := 2) (v := ?_) (some 53) rfl rfl (by kernel_rfl) (by kernel_rfl) (by kernel_rfl) (by decide) (fun _ _ _ h => h) (Or.inl ⟨by rfl, ?_⟩) (fun h0 => by assumption) ?_
            rotate_left
            · intro wS
              go_simp
              try with_reducible rfl
            try simp only [Act.put, List.setIfInBounds_toArray, List.set_cons_zero, List.set_cons_succ]
            refine wpAnyL_free (i := 3) (v := ?_) (some 54) rfl rfl (by kernel_rfl) (by kernel_rfl) (by kernel_rfl) (by decide) (fun _ _ _ h => h) (Or.inl ⟨by rfl, ?_⟩) (fun h0 => by assumption) ?_
            rotate_left
            · intro wS
              go_simp
              try with_reducible rfl
            try simp only [Act.put, List.setIfInBounds_toArray, List.set_cons_zero, List.set_cons_succ]
            refine wpAnyL_take (i := 4) (v := ?_) (some 55) rfl rfl (by kernel_rfl) (by kernel_rfl) (by kernel_rfl) (by kernel_rfl) (by kernel_rfl) (fun _ _ _ h => h) (Or.inl ⟨by rfl, ?_⟩) (by assumption) ?_
            rotate_left
            · intro wS hSw
              try dsimp only at hSw
              go_simp
              try with_reducible rfl
            try simp only [Act.put, List.setIfInBounds_toArray, List.set_cons_zero, List.set_cons_succ]
            refine wpAnyL_free (i := 5) (v := ?_) (some 56) rfl rfl (by kernel_rfl) (by kernel_rfl) (by kernel_rfl) (by decide) (fun _ _ _ h => h) (Or.inl ⟨by rfl, ?_⟩) (fun h0 => by assumption) ?_
            rotate_left
            · intro wS
              go_simp
              try with_reducible rfl
            try simp only [Act.put, List.setIfInBounds_toArray, List.set_cons_zero, List.set_cons_succ]
            refine wpAnyL_take (i := 6) (v := ?_) (some 57) rfl rfl (by kernel_rfl) (by kernel_rfl) (by kernel_rfl) (by kernel_rfl) (by kernel_rfl) (fun _ _ _ h => h) (Or.inl ⟨by rfl, ?_⟩) (by assumption) ?_
            rotate_left
            · intro wS hSw
              try dsimp only at hSw
              go_simp
              try with_reducible rfl
            try simp only [Act.put, List.setIfInBounds_toArray, List.set_cons_zero, List.set_cons_succ]
            refine wpAnyL_ready (rs := [7]) (by kernel_rfl) (by simp) ?_
            refine AllReadyL.cons rfl (fun K hK => ?_) AllReadyL.nil
            go_simp
            refine hK.out _ _ ?_ (fun hHeld => ?_)
            · exact ⟨below_cell ((Below.refl _ _).alloc (Nat.le_refl _) _) hHeld.1, below_cell ((Below.refl _ _).alloc (Nat.le_refl _) _) hHeld.2.1, below_cell ((Below.refl _ _).alloc (Nat.le_refl _) _) hHeld.2.2⟩
            clear hK K
            try simp only [Act.put, List.setIfInBounds_toArray, List.set_cons_zero, List.set_cons_succ]
            refine wpAnyL_ready (rs := [8]) (by kernel_rfl) (by simp) ?_
            refine AllReadyL.last rfl (by kernel_rfl) (fun K hK => ?_) AllReadyL.nil
            have HAL := Lib.hid (((QW.refl wr).drew.below wr.heap.size).trans (((Below.refl wr.drew.heap.size wr.drew).alloc (Nat.le_refl _) (.cells #[.int .i64 (intN (rowN xss k) r)] 2))))
            refine step_append_lies _ (by rfl) _ _ 22 (by rfl) (w1.heap.size + 1) 2 i0 (.int .i64 0) 1 8 Try.underlying22 hi0 hz0 hz1 hz2 (by rfl) (by decide) (.slice ao no co) k _ (by rfl) (ownsRow_below HO9.out HAL.out) _ 1 1 [.int .i64 (intN (rowN xss k) r)] (by rfl) (by rfl) (fun j u hu => World.news_of_block (heap_alloc_new wr.drew _) j u (by simpa using hu)) (by simp [Value.oneCell']) (by omega) (by unfold maxLen; omega) (by omega) (Nat.le_trans hsz HAL.out.size) _ rfl ?_; intro g5 cap5 w6 hown5 hgrow5 hat5 hlt5
            have HBX5 := Lib.hid ((HBX.out.below HAL.out).grown hgrow5 (own_awayG HO9.out w1.heap.size (by omega)))
            have HW5 := Lib.hid ((HW.out.trans (HAL.out.mono HW.out.size)).grown hgrow5 (by have := HAL.out.size; have := HW.out.size; omega) (fun g hg => by have := (HO9.out.lt g hg).1; omega))
            have HO5 := Lib.hid hown5
            have HS5 := Lib.hid (Nat.le_trans HAL.out.size hgrow5.size)
            have k1 := HBX5.out.c 1 rfl
            have kf := HBX5.out.free 1
            clear hown5 hgrow5 hat5 hlt5 HAL
            refine hK.out _ _ ?_
            clear hK K
            try simp only [Act.put, List.setIfInBounds_toArray, List.set_cons_zero, List.set_cons_succ]
            refine wpAnyL_free (i := 9) (v := ?_) (some 60) rfl rfl (by kernel_rfl) (by kernel_rfl) (by kernel_rfl) (by decide) (fun _ _ _ h => h) (Or.inl ⟨by rfl, ?_⟩) (fun h0 => absurd h0 (by decide)) ?_
            rotate_left
            · intro wS
              go_simp
              try with_reducible rfl
            try simp only [Act.put, List.setIfInBounds_toArray, List.set_cons_zero, List.set_cons_succ]
            refine wpAnyL_ready (rs := [10]) (by kernel_rfl) (by simp) ?_
            refine AllReadyL.last rfl (by kernel_rfl) (fun K hK => ?_) AllReadyL.nil
            go_simp
            refine hK.out _ _ ?_
            clear hK K
            try simp only [Act.put, List.setIfInBounds_toArray, List.set_cons_zero, List.set_cons_succ]
            refine wpAnyL_done (by kernel_rfl) ?_ _
            refine NoPanic.normal ?_
            go_wp2
            go_roundw
            case rel =>
              refine ⟨k + 1, _, _, _, by omega, by go_num, fun j hj => ?_, HBX5.out.set 1 _, ?_, HW5.out.setCell (p := ⟨w1.heap.size, 1, none⟩) (Nat.le_refl _) _, by have := HS5.out; simp [World.setCell]; omega⟩
              · by_cases hjk : j = k
                · subst hjk; exact HEQ.out
                · exact HALL.out j (by omega)
              · rw [rowF_succ]
                exact ownsRow_same HO5.out fun g hg => Below.heap_setCell _ _ _ _ (by have := (HO5.out.lt g hg).1; show g ≠ w1.heap.size; omega)
            case measure => simp [intOf]; omega

          · obtain ⟨cc, hcc⟩ : ∃ cc, codeN s ((rowN xss k).take r) = cc := ⟨_, rfl⟩
            have HCK := Lib.hid hcc
            have hne : ¬ cc = k := by rw [← hcc]; exact hck
            have hckb : ((cc : Int) != (k : Int)) = true := by simp; omega
            clear hck hcc
            go_wp2_with fail
            refine (l01CodeG _ ((rowN xss k).take r) (r : Int) s cc _ (HRT.out) hs14 hr14 (HTT.out) HCK.out).mono ?_
            rintro e w3 ⟨rfl, rfl⟩
            have e0 := HRR.out.c 0 rfl
            have e1 := HRR.out.c 1 rfl
            have f0 := HRR.out.free 0
            have f1 := HRR.out.free 1
            go_wp2
            refine bodyPost_ret (v := .tuple #[.agg #[.int .i64 0, .slice none 0 0], .int .i64 4]) (by simp [results, Try.results30, go_sem, e0, e1]) rfl ⟨_, _, _, rfl, ?_, ?_⟩
            · exact OwnRowE.nil _ _ _ (Nat.le_refl _)
            · exact (KR.out.bel.setCell (by show w.heap.size ≤ w.heap.size + 1; omega) _).setCell (by show w.heap.size ≤ w.heap.size + 1; omega) _
        · obtain rfl : k = xss.length := by omega
          exact absurd HALL.out HGD.out
    · have hlnb : ((xss.length : Int) != (q : Int)) = true := by simp; omega
      clear ho hne hgd hq hlq
      go_enter Try.func30, Try.ntmps30
      go_wp2_with fail
      refine (l01Ok _ _ _ _ xss true _ HP.out HO.out).mono ?_
      rintro e w1 ⟨rfl, hq1⟩
      have hb1 := hq1.bel
      have hsz1 : w.heap.size + 2 ≤ w1.heap.size := by have := hb1.size; simpa using this
      have K1 := Lib.hid (K0.out.below hb1)
      have HR1 := Lib.hid (HR0.out.below hb1)
      have cc0 := K1.out.c 0 rfl
      have cc1 := K1.out.c 1 rfl
      clear hb1 ck0 ck1
      clear hq1
      have HBX0 := Lib.hid (Box.new 24 w1 #[.int .i64 r, .slice none 0 0])
      have cc1a := below_cell ((Below.refl w1.heap.size w1).alloc (Nat.le_refl _) (.cells #[.int .i64 r, .slice none 0 0] 24)) cc1
      have cf0 := HBX0.out.c 0 rfl
      have HRB := Lib.hid (HR1.out.below ((Below.refl w1.heap.size w1).alloc (Nat.le_refl _) (.cells #[.int .i64 r, .slice none 0 0] 24)))
      have e0 := HRB.out.c 0 rfl
      have e1 := HRB.out.c 1 rfl
      have f0 := HRB.out.free 0
      have f1 := HRB.out.free 1
      go_wp2
      go_quiet ((go_at_call 63; exact QW.calls_same (l01Power' s r q h1 h2 (by omega) HQ.out _)))
      go_wp2
      refine bodyPost_ret (v := .tuple #[.agg #[.int .i64 0, .slice none 0 0], .int .i64 4]) (by simp [results, Try.results30, go_sem, e0, e1]) rfl ⟨_, _, _, rfl, ?_, ?_⟩
      · exact OwnRowE.nil _ _ _ (Nat.le_refl _)
      · exact (((K1.out.bel.alloc K1.out.bel.size _).trans ((((QW.refl _).drewN _).below _))).setCell (by show w.heap.size ≤ w.heap.size + 1; omega) _).setCell (by show w.heap.size ≤ w.heap.size + 1; omega) _
  · have HO := Lib.hid (Tells.yes ho)
    clear ho
    go_enter Try.func30, Try.ntmps30
    go_wp2_with fail
    refine (l01Ok _ _ _ _ xss true _ HP.out HO.out).mono ?_
    rintro e w1 ⟨rfl, hq1⟩
    have hb1 := hq1.bel
    have hsz1 : w.heap.size + 2 ≤ w1.heap.size := by have := hb1.size; simpa using this
    have K1 := Lib.hid (K0.out.below hb1)
    have HR1 := Lib.hid (HR0.out.below hb1)
    have cc0 := K1.out.c 0 rfl
    have cc1 := K1.out.c 1 rfl
    clear hb1 ck0 ck1
    clear hq1
    have e0 := HR1.out.c 0 rfl
    have e1 := HR1.out.c 1 rfl
    have f0 := HR1.out.free 0
    have f1 := HR1.out.free 1
    go_wp2
    refine bodyPost_ret (v := .tuple #[.agg #[.int .i64 0, .slice none 0 0], .int .i64 2]) (by simp [results, Try.results30, go_sem, e0, e1]) rfl ⟨_, _, _, rfl, ?_, ?_⟩
    · exact OwnRowE.nil _ _ _ (Nat.le_refl _)
    · exact (K1.out.bel.setCell (by show w.heap.size ≤ w.heap.size + 1; omega) _).setCell (by show w.heap.size ≤ w.heap.size + 1; omega) _
  · have HO := Lib.hid (Tells.no ho)
    clear ho
    go_enter Try.func30, Try.ntmps30
    go_wp2_with fail
    refine (l01Ok _ _ _ _ xss false _ HP.out HO.out).mono ?_
    rintro e w1 ⟨rfl, hq1⟩
    have hb1 := hq1.bel
    have hsz1 : w.heap.size + 2 ≤ w1.heap.size := by have := hb1.size; simpa using this
    have K1 := Lib.hid (K0.out.below hb1)
    have HR1 := Lib.hid (HR0.out.below hb1)
    have cc0 := K1.out.c 0 rfl
    have cc1 := K1.out.c 1 rfl
    clear hb1 ck0 ck1
    clear hq1
    have e0 := HR1.out.c 0 rfl
    have e1 := HR1.out.c 1 rfl
    have f0 := HR1.out.free 0
    have f1 := HR1.out.free 1
    go_wp2
    refine bodyPost_ret (v := .tuple #[.agg #[.int .i64 0, .slice none 0 0], .int .i64 1]) (by simp [results, Try.results30, go_sem, e0, e1]) rfl ⟨_, _, _, rfl, ?_, ?_⟩
    · exact OwnRowE.nil _ _ _ (Nat.le_refl _)
    · exact (K1.out.bel.setCell (by show w.heap.size ≤ w.heap.size + 1; omega) _).setCell (by show w.heap.size ≤ w.heap.size + 1; omega) _


set_option linter.unusedSimpArgs false in
set_option maxHeartbeats 1600000 in
set_option maxRecDepth 100000 in
theorem implOpOfGraph (size ar : Int) (a : Option Addr) (n c : Nat) (xss : List (List Int)) (x : Int) (t : List Int) (cd : Int) (w : World) (h : GridC w (.slice a n c) xss) (hi : OpOfGraphIs size ar xss x t cd) :
    Calls Try.prog 32 #[.int .i64 size, .agg #[.int .i64 ar, .slice a n c]] w (MadeOp2 w x t cd) := by
  obtain rfl : n = xss.length := by obtain ⟨_, ⟨_, _, hv, _⟩, _⟩ := h; simp only [Value.slice.injEq] at hv; exact hv.2.1
  obtain ⟨i0, hi0, hz0, hz1, hz2⟩ := info_parts info_intT
  have hxl : xss.length ≤ 9223372036854775807 := by obtain ⟨_, ⟨_, _, _, hn, _⟩, _⟩ := h; exact hn
  have HR0 : Hid (Box 24 _ (w.heap.size + 1) #[.int .i64 0, .slice none 0 0]) := Lib.hid (by
    have h := Box.new 24 (w.alloc (.cells #[.int .i64 ar, .slice a xss.length c] 51)) #[.int .i64 0, .slice none 0 0]
    rwa [World.size_alloc] at h)
  have K0 := Lib.hid (((((Kept.start w).read (lives_gridC _ _) h).box w.heap.size rfl (.int .i64 ar) (.slice a xss.length c) 51)).below ((Below.refl _ _).alloc (Nat.le_refl _) (.cells #[.int .i64 0, .slice none 0 0] 24)))
  have ck0 := K0.out.c 0 rfl
  have ck1 := K0.out.c 1 rfl
  have HP : Hid (RelAt _ w.heap.size 0 ar xss) := Lib.hid ⟨K0.out.c 0 rfl, _, _, _, K0.out.c 1 rfl, GridC.grid (K0.out.r 0 rfl :)⟩
  clear h
  rcases hi with ⟨ho, hne, hgd, rfl, rfl, rfl⟩ | ⟨ho, hne, hgd, rfl, rfl, rfl⟩ | ⟨ho, rfl, rfl, rfl, rfl⟩ | ⟨ho, rfl, rfl, rfl⟩
  · have HO := Lib.hid (Tells.yes ho)
    obtain ⟨s, rfl⟩ : ∃ s : Nat, size = s := ⟨size.toNat, by have := ho.1.1; omega⟩
    obtain ⟨r, rfl⟩ : ∃ r : Nat, ar = (r : Int) + 1 := ⟨(ar - 1).toNat, by have := ho.2.1.1; omega⟩
    have h1 : 1 ≤ s := by have := ho.1.1; omega
    have h2 : s ≤ 4 := by have := ho.1.2; omega
    have h3 : 1 ≤ r := by omega
    have h4 : r ≤ 3 := by have := ho.2.1.2; omega
    have hs14 : In14 (s : Int) := ho.1
    have hr14 : In14 (r : Int) := ⟨by omega, by omega⟩
    have hne1 : (((r : Int) + 1) == 1) = false := by simp; omega
    have hcast : ((r : Int) + 1) - 1 = (r : Int) := by omega
    have HTUP : Hid (∀ k, k < xss.length → TupP s ((r : Int) + 1) (rowN xss k)) := Lib.hid (fun k hk => (ho.2.2 k hk).1)
    obtain ⟨q, hq⟩ : ∃ q, s ^ r = q := ⟨_, rfl⟩
    have h64 : q ≤ 64 := by rw [← hq]; exact (pow_le3 h1 h2 h4).1
    have hq1 : 1 ≤ q := by rw [← hq]; exact (pow_le3 h1 h2 h4).2
    have HQ := Lib.hid hq

    simp only [hcast, Int.toNat_natCast] at hgd ⊢
    clear hcast
    have hlq : xss.length = q := by rw [← hq]; simpa using hgd.1
    have HGD := Lib.hid hgd.2
    have hlnb : ((xss.length : Int) != (q : Int)) = false := by simp; omega
    have hl1 : 1 ≤ xss.length := by omega
    have hl64 : xss.length ≤ 64 := by omega
    clear ho hne hgd hq hlq
    obtain ⟨bg, og, rfl⟩ : ∃ bg og, a = some ⟨bg, og, none⟩ := by
      obtain ⟨V, ⟨a', c', hv, hn, hc⟩, -⟩ := (K0.out.r 0 rfl : GridC _ (.slice a xss.length c) xss)
      simp only [Value.slice.injEq] at hv
      obtain ⟨rfl, _, _⟩ := hv
      obtain ⟨b, off, rfl, _⟩ := hc (by omega)
      exact ⟨b, off, rfl⟩
    go_enter Try.func32, Try.ntmps32
    go_wp2_with fail
    refine (implValidRel _ _ _ _ _ xss true _ (GridC.grid (K0.out.r 0 rfl :)) HO.out).mono ?_
    rintro e w1 ⟨rfl, hb1⟩
    have hsz1 : w.heap.size + 2 ≤ w1.heap.size := by have := hb1.size; simpa using this
    have K1 := Lib.hid (K0.out.below hb1)
    have HR1 := Lib.hid (HR0.out.below hb1)
    have cc0 := K1.out.c 0 rfl
    have cc1 := K1.out.c 1 rfl
    clear hb1 ck0 ck1
    have HBX0 := Lib.hid (Box.new 24 w1 #[.int .i64 r, .slice none 0 0])
    have cc1a := below_cell ((Below.refl w1.heap.size w1).alloc (Nat.le_refl _) (.cells #[.int .i64 r, .slice none 0 0] 24)) cc1
    have cf0 := HBX0.out.c 0 rfl
    go_wp2
    go_quiet ((go_at_call 65; exact QW.calls_same (tupleCount' s r q h1 h2 (by omega) HQ.out _)))
    go_wp2
    clear cc0 cc1 cc1a cf0
    go_loopw [34] (fun i wr => ∃ (k : Nat) (a : Option Addr) (n c : Nat), k ≤ xss.length ∧ i = .int .i64 k ∧ (∀ j, j < k → codeN s ((rowN xss j).take r) = j) ∧ Box 24 wr w1.heap.size #[.int .i64 r, .slice a n c] ∧ wr.ownsRow (w1.heap.size + 1) 2 1 (.slice a n c) k ((rowF (fun i => intN (rowN xss i) r) k).map (Value.int .i64)) ∧ Below w1.heap.size w1 wr ∧ w1.heap.size + 1 ≤ wr.heap.size) (fun i _ => xss.length - (intOf i).toNat)
    case atStart =>
      exact ⟨0, none, 0, 0, Nat.zero_le _, rfl, fun j hj => absurd hj (Nat.not_lt_zero _), HBX0.out.below (((QW.refl _).drewN _).below _), World.ownsRow_nil _ _ _ 1, ((Below.refl _ _).alloc (Nat.le_refl _) _).trans ((((QW.refl _).drewN _).below _)), by simp⟩
    case round =>
      obtain ⟨k, ao, no, co, hk, rfl, hall, hbx, hown, hbel, hsz⟩ := hrel
      have HALL := Lib.hid hall
      have HBX := Lib.hid hbx
      have HO9 := Lib.hid hown
      have HW := Lib.hid hbel
      have KR := Lib.hid (K1.out.below hbel)
      have HRR := Lib.hid (HR1.out.below hbel)
      have g1 := KR.out.c 1 rfl
      clear hall hbx hown hbel
      by_cases hlt : k < xss.length
      · have hlt' : (k : Int) < (xss.length : Int) := by omega
        obtain ⟨V, hS, hV⟩ := (KR.out.r 0 rfl : GridC wr (.slice (some ⟨bg, og, none⟩) xss.length c) xss)
        have hx0 := SlAt.vcell hS k hlt
        obtain ⟨hrow, a3, n3, c3, hv3, hcap⟩ := hV k hlt
        rw [hv3] at hx0 hrow
        have ht := HTUP.out k hlt
        have hln : (rowN xss k).length = r + 1 := by have := ht.1; omega
        obtain ⟨b3, off3, rfl, rfl, -⟩ := SlAt.some_of hrow 0 (by omega)
        have dx := SlAt.cell_of hrow r (by omega)
        rw [hln] at hx0 hcap
        have HRT : Hid (RowAt wr (.slice (some ⟨b3, off3, none⟩) r c3) ((rowN xss k).take r)) := Lib.hid (rowAt_take hrow (by omega))
        have HTT : Hid (TupP s (r : Int) ((rowN xss k).take r)) := Lib.hid (tup_take ht)
        have hcapI : (r : Int) ≤ (c3 : Int) := by omega
        have hrI : (r : Int) < ((r + 1 : Nat) : Int) := by omega
        have hrI2 : (r : Int) < (r : Int) + 1 := by omega
        have d0 := HBX.out.c 0 rfl
        have d1 := HBX.out.c 1 rfl
        clear hS hV hv3 hrow ht hln
        have HCK := Lib.hid (HGD.out k hlt)
        have HEQ := Lib.hid (HGD.out k hlt)
        have hckb : ((k : Int) != (k : Int)) = false := by simp
        go_wp2_with fail
        refine (numberOfG _ ((rowN xss k).take r) (r : Int) s k _ (HRT.out) hs14 hr14 (HTT.out) HCK.out).mono ?_
        rintro e w3 ⟨rfl, rfl⟩
        go_wp2
        refine wp_region_noPanic ?_
        refine wp_region_late (S := (fun w' => w'.cell? ⟨w1.heap.size, 1, none⟩ = some (.slice ao no co) ∧ w'.cell? ⟨w1.heap.size, 0, none⟩ = some (.int .i64 r) ∧ w'.cell? ⟨b3, off3 + r, none⟩ = some (.int .i64 (intN (rowN xss k) r)))) [8, 10] (by kernel_rfl) ?_ (fun hHeld => ?_)
        · exact ⟨d1, d0, dx⟩
        refine wpAnyL_free (i := 0) (v := ?_) (some 48) rfl rfl (by kernel_rfl) (by kernel_rfl) (by kernel_rfl) (by decide) (fun _ _ _ h => h) (Or.inl ⟨by rfl, ?_⟩) (fun h0 => by assumption) ?_
        rotate_left
        · intro wS
          go_simp
          try with_reducible rfl
        try simp only [Act.put, List.setIfInBounds_toArray, List.set_cons_zero, List.set_cons_succ]
        refine wpAnyL_take (i := 1) (v := ?_) (some 49) rfl rfl (by kernel_rfl) (by kernel_rfl) (by kernel_rfl) (by kernel_rfl) (by kernel_rfl) (fun _ _ _ h => h) (Or.inl ⟨by rfl, ?_⟩) (by assumption) ?_
        rotate_left
        · intro wS hSw
          try dsimp only at hSw
          go_simp
          try with_reducible rfl
        try simp only [Act.put, List.setIfInBounds_toArray, List.set_cons_zero, List.set_cons_succ]
        refine wpAnyL_free (i := 2) (v := ?_) (some 50) rfl rfl (by kernel_rfl) (by kernel_rfl) (by kernel_rfl) (by decide) (fun _ _ _ h => h) (Or.inl ⟨by rfl, ?_⟩) (fun h0 => by assumption) ?_
        rotate_left
        · intro wS
          go_simp
          try with_reducible rfl
        try simp only [Act.put, List.setIfInBounds_toArray, List.set_cons_zero, List.set_cons_succ]
        refine wpAnyL_free (i := 3) (v := ?_) (some 51) rfl rfl (by kernel_rfl) (by kernel_rfl) (by kernel_rfl) (by decide) (fun _ _ _ h => h) (Or.inl ⟨by rfl, ?_⟩) (fun h0 => by assumption) ?_
        rotate_left
        · intro wS
          go_simp
          try with_reducible rfl
        try simp only [Act.put, List.setIfInBounds_toArray, List.set_cons_zero, List.set_cons_succ]
        refine wpAnyL_take (i := 4) (v := ?_) (some 52) rfl rfl (by kernel_rfl) (by kernel_rfl) (by kernel_rfl) (by kernel_rfl) (by kernel_rfl) (fun _ _ _ h => h) (Or.inl ⟨by rfl, ?_⟩) (by assumption) ?_
        rotate_left
        · intro wS hSw
          try dsimp only at hSw
          go_simp
          try with_reducible rfl
        try simp only [Act.put, List.setIfInBounds_toArray, List.set_cons_zero, List.set_cons_succ]
        refine wpAnyL_free (i := 5) (v := ?_) (some 53) rfl rfl (by kernel_rfl) (by kernel_rfl) (by kernel_rfl) (by decide) (fun _ _ _ h => h) (Or.inl ⟨by rfl, ?_⟩) (fun h0 => by assumption) ?_
        rotate_left
        · intro wS
          go_simp
          try with_reducible rfl
        try simp only [Act.put, List.setIfInBounds_toArray, List.set_cons_zero, List.set_cons_succ]
        refine wpAnyL_take (i := 6) (v := ?_) (some 54) rfl rfl (by kernel_rfl) (by kernel_rfl) (by kernel_rfl) (by kernel_rfl) (by kernel_rfl) (fun _ _ _ h => h) (Or.inl ⟨by rfl, ?_⟩) (by assumption) ?_
        rotate_left
        · intro wS hSw
          try dsimp only at hSw
          go_simp
          try with_reducible rfl
        try simp only [Act.put, List.setIfInBounds_toArray, List.set_cons_zero, List.set_cons_succ]
        refine wpAnyL_ready (rs := [7]) (by kernel_rfl) (by simp) ?_
        refine AllReadyL.cons rfl (fun K hK => ?_) AllReadyL.nil
        go_simp
        refine hK.out _ _ ?_ (fun hHeld => ?_)
        · exact ⟨below_cell ((Below.refl _ _).alloc (Nat.le_refl _) _) hHeld.1, below_cell ((Below.refl _ _).alloc (Nat.le_refl _) _) hHeld.2.1, below_cell ((Below.refl _ _).alloc (Nat.le_refl _) _) hHeld.2.2⟩
        clear hK K
        try simp only [Act.put, List.setIfInBounds_toArray, List.set_cons_zero, List.set_cons_succ]
        refine wpAnyL_ready (rs := [8]) (by kernel_rfl) (by simp) ?_
        refine AllReadyL.last rfl (by kernel_rfl) (fun K hK => ?_) AllReadyL.nil
        have HAL := Lib.hid (((QW.refl wr).drew.below wr.heap.size).trans (((Below.refl wr.drew.heap.size wr.drew).alloc (Nat.le_refl _) (.cells #[.int .i64 (intN (rowN xss k) r)] 2))))
        refine step_append_lies _ (by rfl) _ _ 22 (by rfl) (w1.heap.size + 1) 2 i0 (.int .i64 0) 1 8 Try.underlying22 hi0 hz0 hz1 hz2 (by rfl) (by decide) (.slice ao no co) k _ (by rfl) (ownsRow_below HO9.out HAL.out) _ 1 1 [.int .i64 (intN (rowN xss k) r)] (by rfl) (by rfl) (fun j u hu => World.news_of_block (heap_alloc_new wr.drew _) j u (by simpa using hu)) (by simp [Value.oneCell']) (by omega) (by unfold maxLen; omega) (by omega) (Nat.le_trans hsz HAL.out.size) _ rfl ?_; intro g5 cap5 w6 hown5 hgrow5 hat5 hlt5
        have HBX5 := Lib.hid ((HBX.out.below HAL.out).grown hgrow5 (own_awayG HO9.out w1.heap.size (by omega)))
        have HW5 := Lib.hid ((HW.out.trans (HAL.out.mono HW.out.size)).grown hgrow5 (by have := HAL.out.size; have := HW.out.size; omega) (fun g hg => by have := (HO9.out.lt g hg).1; omega))
        have HO5 := Lib.hid hown5
        have HS5 := Lib.hid (Nat.le_trans HAL.out.size hgrow5.size)
        have k1 := HBX5.out.c 1 rfl
        have kf := HBX5.out.free 1
        clear hown5 hgrow5 hat5 hlt5 HAL
        refine hK.out _ _ ?_
        clear hK K
        try simp only [Act.put, List.setIfInBounds_toArray, List.set_cons_zero, List.set_cons_succ]
        refine wpAnyL_free (i := 9) (v := ?_) (some 57) rfl rfl (by kernel_rfl) (by kernel_rfl) (by kernel_rfl) (by decide) (fun _ _ _ h => h) (Or.inl ⟨by rfl, ?_⟩) (fun h0 => absurd h0 (by decide)) ?_
        rotate_left
        · intro wS
          go_simp
          try with_reducible rfl
        try simp only [Act.put, List.setIfInBounds_toArray, List.set_cons_zero, List.set_cons_succ]
        refine wpAnyL_ready (rs := [10]) (by kernel_rfl) (by simp) ?_
        refine AllReadyL.last rfl (by kernel_rfl) (fun K hK => ?_) AllReadyL.nil
        go_simp
        refine hK.out _ _ ?_
        clear hK K
        try simp only [Act.put, List.setIfInBounds_toArray, List.set_cons_zero, List.set_cons_succ]
        refine wpAnyL_done (by kernel_rfl) ?_ _
        refine NoPanic.normal ?_
        go_wp2
        go_roundw
        case rel =>
          refine ⟨k + 1, _, _, _, by omega, by go_num, fun j hj => ?_, HBX5.out.set 1 _, ?_, HW5.out.setCell (p := ⟨w1.heap.size, 1, none⟩) (Nat.le_refl _) _, by have := HS5.out; simp [World.setCell]; omega⟩
          · by_cases hjk : j = k
            · subst hjk; exact HEQ.out
            · exact HALL.out j (by omega)
          · rw [rowF_succ]
            exact ownsRow_same HO5.out fun g hg => Below.heap_setCell _ _ _ _ (by have := (HO5.out.lt g hg).1; show g ≠ w1.heap.size; omega)
        case measure => simp [intOf]; omega

      · obtain rfl : k = xss.length := by omega
        have hm : no = xss.length := by
          rcases ownsRow_parts HO9.out with ⟨hv, h0, _⟩ | ⟨_, _, hv, _⟩ <;> simp only [Value.slice.injEq] at hv <;> omega
        subst hm
        have HE : Hid (OwnRow wr (w1.heap.size + 1) (.slice ao xss.length co) (rowF (fun i => intN (rowN xss i) r) xss.length)) := by
          show World.ownsRow _ _ _ _ _ _ _
          rw [rowF_len]
          exact HO9.out
        have d0 := HBX.out.c 0 rfl
        have d1 := HBX.out.c 1 rfl
        have e0 := HRR.out.c 0 rfl
        have e1 := HRR.out.c 1 rfl
        have f0 := HRR.out.free 0
        have f1 := HRR.out.free 1
        go_wp2
        refine bodyPost_ret (v := .tuple #[.agg #[.int .i64 r, .slice ao xss.length co], .int .i64 0]) (by simp [results, Try.results32, go_sem, e0, e1]) rfl ⟨_, _, _, rfl, ?_, ?_⟩
        · exact (((HE.out.stored (by show w.heap.size + 1 < w1.heap.size + 1; omega) _).stored (by show w.heap.size + 1 < w1.heap.size + 1; omega) _).mono (by omega)).full
        · exact (KR.out.bel.setCell (by show w.heap.size ≤ w.heap.size + 1; omega) _).setCell (by show w.heap.size ≤ w.heap.size + 1; omega) _
  · have HO := Lib.hid (Tells.yes ho)
    obtain ⟨s, rfl⟩ : ∃ s : Nat, size = s := ⟨size.toNat, by have := ho.1.1; omega⟩
    obtain ⟨r, rfl⟩ : ∃ r : Nat, ar = (r : Int) + 1 := ⟨(ar - 1).toNat, by have := ho.2.1.1; omega⟩
    have h1 : 1 ≤ s := by have := ho.1.1; omega
    have h2 : s ≤ 4 := by have := ho.1.2; omega
    have h3 : 1 ≤ r := by omega
    have h4 : r ≤ 3 := by have := ho.2.1.2; omega
    have hs14 : In14 (s : Int) := ho.1
    have hr14 : In14 (r : Int) := ⟨by omega, by omega⟩
    have hne1 : (((r : Int) + 1) == 1) = false := by simp; omega
    have hcast : ((r : Int) + 1) - 1 = (r : Int) := by omega
    have HTUP : Hid (∀ k, k < xss.length → TupP s ((r : Int) + 1) (rowN xss k)) := Lib.hid (fun k hk => (ho.2.2 k hk).1)
    obtain ⟨q, hq⟩ : ∃ q, s ^ r = q := ⟨_, rfl⟩
    have h64 : q ≤ 64 := by rw [← hq]; exact (pow_le3 h1 h2 h4).1
    have hq1 : 1 ≤ q := by rw [← hq]; exact (pow_le3 h1 h2 h4).2
    have HQ := Lib.hid hq

    simp only [hcast, Int.toNat_natCast] at hgd ⊢
    clear hcast
    by_cases hlq : xss.length = q
    · have HGD : Hid (¬ ∀ k, k < xss.length → codeN s ((rowN xss k).take r) = k) := Lib.hid (fun h => hgd ⟨by rw [hq]; exact hlq, h⟩)
      have hlnb : ((xss.length : Int) != (q : Int)) = false := by simp; omega
      have hl1 : 1 ≤ xss.length := by omega
      have hl64 : xss.length ≤ 64 := by omega
      clear ho hne hgd hq hlq
      obtain ⟨bg, og, rfl⟩ : ∃ bg og, a = some ⟨bg, og, none⟩ := by
        obtain ⟨V, ⟨a', c', hv, hn, hc⟩, -⟩ := (K0.out.r 0 rfl : GridC _ (.slice a xss.length c) xss)
        simp only [Value.slice.injEq] at hv
        obtain ⟨rfl, _, _⟩ := hv
        obtain ⟨b, off, rfl, _⟩ := hc (by omega)
        exact ⟨b, off, rfl⟩
      go_enter Try.func32, Try.ntmps32
      go_wp2_with fail
      refine (implValidRel _ _ _ _ _ xss true _ (GridC.grid (K0.out.r 0 rfl :)) HO.out).mono ?_
      rintro e w1 ⟨rfl, hb1⟩
      have hsz1 : w.heap.size + 2 ≤ w1.heap.size := by have := hb1.size; simpa using this
      have K1 := Lib.hid (K0.out.below hb1)
      have HR1 := Lib.hid (HR0.out.below hb1)
      have cc0 := K1.out.c 0 rfl
      have cc1 := K1.out.c 1 rfl
      clear hb1 ck0 ck1
      have HBX0 := Lib.hid (Box.new 24 w1 #[.int .i64 r, .slice none 0 0])
      have cc1a := below_cell ((Below.refl w1.heap.size w1).alloc (Nat.le_refl _) (.cells #[.int .i64 r, .slice none 0 0] 24)) cc1
      have cf0 := HBX0.out.c 0 rfl
      go_wp2
      go_quiet ((go_at_call 65; exact QW.calls_same (tupleCount' s r q h1 h2 (by omega) HQ.out _)))
      go_wp2
      clear cc0 cc1 cc1a cf0
      go_loopw [34] (fun i wr => ∃ (k : Nat) (a : Option Addr) (n c : Nat), k ≤ xss.length ∧ i = .int .i64 k ∧ (∀ j, j < k → codeN s ((rowN xss j).take r) = j) ∧ Box 24 wr w1.heap.size #[.int .i64 r, .slice a n c] ∧ wr.ownsRow (w1.heap.size + 1) 2 1 (.slice a n c) k ((rowF (fun i => intN (rowN xss i) r) k).map (Value.int .i64)) ∧ Below w1.heap.size w1 wr ∧ w1.heap.size + 1 ≤ wr.heap.size) (fun i _ => xss.length - (intOf i).toNat)
      case atStart =>
        exact ⟨0, none, 0, 0, Nat.zero_le _, rfl, fun j hj => absurd hj (Nat.not_lt_zero _), HBX0.out.below (((QW.refl _).drewN _).below _), World.ownsRow_nil _ _ _ 1, ((Below.refl _ _).alloc (Nat.le_refl _) _).trans ((((QW.refl _).drewN _).below _)), by simp⟩
      case round =>
        obtain ⟨k, ao, no, co, hk, rfl, hall, hbx, hown, hbel, hsz⟩ := hrel
        have HALL := Lib.hid hall
        have HBX := Lib.hid hbx
        have HO9 := Lib.hid hown
        have HW := Lib.hid hbel
        have KR := Lib.hid (K1.out.below hbel)
        have HRR := Lib.hid (HR1.out.below hbel)
        have g1 := KR.out.c 1 rfl
        clear hall hbx hown hbel
        by_cases hlt : k < xss.length
        · have hlt' : (k : Int) < (xss.length : Int) := by omega
          obtain ⟨V, hS, hV⟩ := (KR.out.r 0 rfl : GridC wr (.slice (some ⟨bg, og, none⟩) xss.length c) xss)
          have hx0 := SlAt.vcell hS k hlt
          obtain ⟨hrow, a3, n3, c3, hv3, hcap⟩ := hV k hlt
          rw [hv3] at hx0 hrow
          have ht := HTUP.out k hlt
          have hln : (rowN xss k).length = r + 1 := by have := ht.1; omega
          obtain ⟨b3, off3, rfl, rfl, -⟩ := SlAt.some_of hrow 0 (by omega)
          have dx := SlAt.cell_of hrow r (by omega)
          rw [hln] at hx0 hcap
          have HRT : Hid (RowAt wr (.slice (some ⟨b3, off3, none⟩) r c3) ((rowN xss k).take r)) := Lib.hid (rowAt_take hrow (by omega))
          have HTT : Hid (TupP s (r : Int) ((rowN xss k).take r)) := Lib.hid (tup_take ht)
          have hcapI : (r : Int) ≤ (c3 : Int) := by omega
          have hrI : (r : Int) < ((r + 1 : Nat) : Int) := by omega
          have hrI2 : (r : Int) < (r : Int) + 1 := by omega
          have d0 := HBX.out.c 0 rfl
          have d1 := HBX.out.c 1 rfl
          clear hS hV hv3 hrow ht hln
          by_cases hck : codeN s ((rowN xss k).take r) = k
          · have HCK := Lib.hid hck
            have HEQ := Lib.hid hck
            clear hck
            have hckb : ((k : Int) != (k : Int)) = false := by simp
            go_wp2_with fail
            refine (numberOfG _ ((rowN xss k).take r) (r : Int) s k _ (HRT.out) hs14 hr14 (HTT.out) HCK.out).mono ?_
            rintro e w3 ⟨rfl, rfl⟩
            go_wp2
            refine wp_region_noPanic ?_
            refine wp_region_late (S := (fun w' => w'.cell? ⟨w1.heap.size, 1, none⟩ = some (.slice ao no co) ∧ w'.cell? ⟨w1.heap.size, 0, none⟩ = some (.int .i64 r) ∧ w'.cell? ⟨b3, off3 + r, none⟩ = some (.int .i64 (intN (rowN xss k) r)))) [8, 10] (by kernel_rfl) ?_ (fun hHeld => ?_)
            · exact ⟨d1, d0, dx⟩
            refine wpAnyL_free (i := 0) (v := ?_) (some 48) rfl rfl (by kernel_rfl) (by kernel_rfl) (by kernel_rfl) (by decide) (fun _ _ _ h => h) (Or.inl ⟨by rfl, ?_⟩) (fun h0 => by assumption) ?_
            rotate_left
            · intro wS
              go_simp
              try with_reducible rfl
            try simp only [Act.put, List.setIfInBounds_toArray, List.set_cons_zero, List.set_cons_succ]
            refine wpAnyL_take (i := 1) (v := ?_) (some 49) rfl rfl (by kernel_rfl) (by kernel_rfl) (by kernel_rfl) (by kernel_rfl) (by kernel_rfl) (fun _ _ _ h => h) (Or.inl ⟨by rfl, ?_⟩) (by assumption) ?_
            rotate_left
            · intro wS hSw
              try dsimp only at hSw
              go_simp
              try with_reducible rfl
            try simp only [Act.put, List.setIfInBounds_toArray, List.set_cons_zero, List.set_cons_succ]
            refine wpAnyL_free (i := 2) (v := ?_) (some 50) rfl rfl (by kernel_rfl) (by kernel_rfl) (by kernel_rfl) (by decide) (fun _ _ _ h => h) (Or.inl ⟨by rfl, ?_⟩) (fun h0 => by assumption) ?_
            rotate_left
            · intro wS
              go_simp
              try with_reducible rfl
            try simp only [Act.put, List.setIfInBounds_toArray, List.set_cons_zero, List.set_cons_succ]
            refine wpAnyL_free (i := 3) (v := ?_) (some 51) rfl rfl (by kernel_rfl) (by kernel_rfl) (by kernel_rfl) (by decide) (fun _ _ _ h => h) (Or.inl ⟨by rfl, ?_⟩) (fun h0 => by assumption) ?_
            rotate_left
            · intro wS
              go_simp
              try with_reducible rfl
            try simp only [Act.put, List.setIfInBounds_toArray, List.set_cons_zero, List.set_cons_succ]
            refine wpAnyL_take (i := 4) (v := ?_) (some 52) rfl rfl (by kernel_rfl) (by kernel_rfl) (by kernel_rfl) (by kernel_rfl) (by kernel_rfl) (fun _ _ _ h => h) (Or.inl ⟨by rfl, ?_⟩) (by assumption) ?_
            rotate_left
            · intro wS hSw
              try dsimp only at hSw
              go_simp
              try with_reducible rfl
            try simp only [Act.put, List.setIfInBounds_toArray, List.set_cons_zero, List.set_cons_succ]
            refine wpAnyL_free (i := 5) (v := ?_) (some 53) rfl rfl (by kernel_rfl) (by kernel_rfl) (by kernel_rfl) (by decide) (fun _ _ _ h => h) (Or.inl ⟨by rfl, ?_⟩) (fun h0 => by assumption) ?_
            rotate_left
            · intro wS
              go_simp
              try with_reducible rfl
            try simp only [Act.put, List.setIfInBounds_toArray, List.set_cons_zero, List.set_cons_succ]
            refine wpAnyL_take (i := 6) (v := ?_) (some 54) rfl rfl (by kernel_rfl) (by kernel_rfl) (by kernel_rfl) (by kernel_rfl) (by kernel_rfl) (fun _ _ _ h => h) (Or.inl ⟨by rfl, ?_⟩) (by assumption) ?_
            rotate_left
            · intro wS hSw
              try dsimp only at hSw
              go_simp
              try with_reducible rfl
            try simp only [Act.put, List.setIfInBounds_toArray, List.set_cons_zero, List.set_cons_succ]
            refine wpAnyL_ready (rs := [7]) (by kernel_rfl) (by simp) ?_
            refine AllReadyL.cons rfl (fun K hK => ?_) AllReadyL.nil
            go_simp
            refine hK.out _ _ ?_ (fun hHeld => ?_)
            · exact ⟨below_cell ((Below.refl _ _).alloc (Nat.le_refl _) _) hHeld.1, below_cell ((Below.refl _ _).alloc (Nat.le_refl _) _) hHeld.2.1, below_cell ((Below.refl _ _).alloc (Nat.le_refl _) _) hHeld.2.2⟩
            clear hK K
            try simp only [Act.put, List.setIfInBounds_toArray, List.set_cons_zero, List.set_cons_succ]
            refine wpAnyL_ready (rs := [8]) (by kernel_rfl) (by simp) ?_
            refine AllReadyL.last rfl (by kernel_rfl) (fun K hK => ?_) AllReadyL.nil
            have HAL := Lib.hid (((QW.refl wr).drew.below wr.heap.size).trans (((Below.refl wr.drew.heap.size wr.drew).alloc (Nat.le_refl _) (.cells #[.int .i64 (intN (rowN xss k) r)] 2))))
            refine step_append_lies _ (by rfl) _ _ 22 (by rfl) (w1.heap.size + 1) 2 i0 (.int .i64 0) 1 8 Try.underlying22 hi0 hz0 hz1 hz2 (by rfl) (by decide) (.slice ao no co) k _ (by rfl) (ownsRow_below HO9.out HAL.out) _ 1 1 [.int .i64 (intN (rowN xss k) r)] (by rfl) (by rfl) (fun j u hu => World.news_of_block (heap_alloc_new wr.drew _) j u (by simpa using hu)) (by simp [Value.oneCell']) (by omega) (by unfold maxLen; omega) (by omega) (Nat.le_trans hsz HAL.out.size) _ rfl ?_; intro g5 cap5 w6 hown5 hgrow5 hat5 hlt5
            have HBX5 := Lib.hid ((HBX.out.below HAL.out).grown hgrow5 (own_awayG HO9.out w1.heap.size (by omega)))
            have HW5 := Lib.hid ((HW.out.trans (HAL.out.mono HW.out.size)).grown hgrow5 (by have := HAL.out.size; have := HW.out.size; omega) (fun g hg => by have := (HO9.out.lt g hg).1; omega))
            have HO5 := Lib.hid hown5
            have HS5 := Lib.hid (Nat.le_trans HAL.out.size hgrow5.size)
            have k1 := HBX5.out.c 1 rfl
            have kf := HBX5.out.free 1
            clear hown5 hgrow5 hat5 hlt5 HAL
            refine hK.out _ _ ?_
            clear hK K
            try simp only [Act.put, List.setIfInBounds_toArray, List.set_cons_zero, List.set_cons_succ]
            refine wpAnyL_free (i := 9) (v := ?_) (some 57) rfl rfl (by kernel_rfl) (by kernel_rfl) (by kernel_rfl) (by decide) (fun _ _ _ h => h) (Or.inl ⟨by rfl, ?_⟩) (fun h0 => absurd h0 (by decide)) ?_
            rotate_left
            · intro wS
              go_simp
              try with_reducible rfl
            try simp only [Act.put, List.setIfInBounds_toArray, List.set_cons_zero, List.set_cons_succ]
            refine wpAnyL_ready (rs := [10]) (by kernel_rfl) (by simp) ?_
            refine AllReadyL.last rfl (by kernel_rfl) (fun K hK => ?_) AllReadyL.nil
            go_simp
            refine hK.out _ _ ?_
            clear hK K
            try simp only [Act.put, List.setIfInBounds_toArray, List.set_cons_zero, List.set_cons_succ]
            refine wpAnyL_done (by kernel_rfl) ?_ _
            refine NoPanic.normal ?_
            go_wp2
            go_roundw
            case rel =>
              refine ⟨k + 1, _, _, _, by omega, by go_num, fun j hj => ?_, HBX5.out.set 1 _, ?_, HW5.out.setCell (p := ⟨w1.heap.size, 1, none⟩) (Nat.le_refl _) _, by have := HS5.out; simp [World.setCell]; omega⟩
              · by_cases hjk : j = k
                · subst hjk; exact HEQ.out
                · exact HALL.out j (by omega)
              · rw [rowF_succ]
                exact ownsRow_same HO5.out fun g hg => Below.heap_setCell _ _ _ _ (by have := (HO5.out.lt g hg).1; show g ≠ w1.heap.size; omega)
            case measure => simp [intOf]; omega

          · obtain ⟨cc, hcc⟩ : ∃ cc, codeN s ((rowN xss k).take r) = cc := ⟨_, rfl⟩
            have HCK := Lib.hid hcc
            have hne : ¬ cc = k := by rw [← hcc]; exact hck
            have hckb : ((cc : Int) != (k : Int)) = true := by simp; omega
            clear hck hcc
            go_wp2_with fail
            refine (numberOfG _ ((rowN xss k).take r) (r : Int) s cc _ (HRT.out) hs14 hr14 (HTT.out) HCK.out).mono ?_
            rintro e w3 ⟨rfl, rfl⟩
            have e0 := HRR.out.c 0 rfl
            have e1 := HRR.out.c 1 rfl
            have f0 := HRR.out.free 0
            have f1 := HRR.out.free 1
            go_wp2
            refine bodyPost_ret (v := .tuple #[.agg #[.int .i64 0, .slice none 0 0], .int .i64 4]) (by simp [results, Try.results32, go_sem, e0, e1]) rfl ⟨_, _, _, rfl, ?_, ?_⟩
            · exact OwnRowE.nil _ _ _ (Nat.le_refl _)
            · exact (KR.out.bel.setCell (by show w.heap.size ≤ w.heap.size + 1; omega) _).setCell (by show w.heap.size ≤ w.heap.size + 1; omega) _
        · obtain rfl : k = xss.length := by omega
          exact absurd HALL.out HGD.out
    · have hlnb : ((xss.length : Int) != (q : Int)) = true := by simp; omega
      clear ho hne hgd hq hlq
      go_enter Try.func32, Try.ntmps32
      go_wp2_with fail
      refine (implValidRel _ _ _ _ _ xss true _ (GridC.grid (K0.out.r 0 rfl :)) HO.out).mono ?_
      rintro e w1 ⟨rfl, hb1⟩
      have hsz1 : w.heap.size + 2 ≤ w1.heap.size := by have := hb1.size; simpa using this
      have K1 := Lib.hid (K0.out.below hb1)
      have HR1 := Lib.hid (HR0.out.below hb1)
      have cc0 := K1.out.c 0 rfl
      have cc1 := K1.out.c 1 rfl
      clear hb1 ck0 ck1
      have HBX0 := Lib.hid (Box.new 24 w1 #[.int .i64 r, .slice none 0 0])
      have cc1a := below_cell ((Below.refl w1.heap.size w1).alloc (Nat.le_refl _) (.cells #[.int .i64 r, .slice none 0 0] 24)) cc1
      have cf0 := HBX0.out.c 0 rfl
      have HRB := Lib.hid (HR1.out.below ((Below.refl w1.heap.size w1).alloc (Nat.le_refl _) (.cells #[.int .i64 r, .slice none 0 0] 24)))
      have e0 := HRB.out.c 0 rfl
      have e1 := HRB.out.c 1 rfl
      have f0 := HRB.out.free 0
      have f1 := HRB.out.free 1
      go_wp2
      go_quiet ((go_at_call 65; exact QW.calls_same (tupleCount' s r q h1 h2 (by omega) HQ.out _)))
      go_wp2
      refine bodyPost_ret (v := .tuple #[.agg #[.int .i64 0, .slice none 0 0], .int .i64 4]) (by simp [results, Try.results32, go_sem, e0, e1]) rfl ⟨_, _, _, rfl, ?_, ?_⟩
      · exact OwnRowE.nil _ _ _ (Nat.le_refl _)
      · exact (((K1.out.bel.alloc K1.out.bel.size _).trans ((((QW.refl _).drewN _).below _))).setCell (by show w.heap.size ≤ w.heap.size + 1; omega) _).setCell (by show w.heap.size ≤ w.heap.size + 1; omega) _
  · have HO := Lib.hid (Tells.yes ho)
    clear ho
    go_enter Try.func32, Try.ntmps32
    go_wp2_with fail
    refine (implValidRel _ _ _ _ _ xss true _ (GridC.grid (K0.out.r 0 rfl :)) HO.out).mono ?_
    rintro e w1 ⟨rfl, hb1⟩
    have hsz1 : w.heap.size + 2 ≤ w1.heap.size := by have := hb1.size; simpa using this
    have K1 := Lib.hid (K0.out.below hb1)
    have HR1 := Lib.hid (HR0.out.below hb1)
    have cc0 := K1.out.c 0 rfl
    have cc1 := K1.out.c 1 rfl
    clear hb1 ck0 ck1
    have e0 := HR1.out.c 0 rfl
    have e1 := HR1.out.c 1 rfl
    have f0 := HR1.out.free 0
    have f1 := HR1.out.free 1
    go_wp2
    refine bodyPost_ret (v := .tuple #[.agg #[.int .i64 0, .slice none 0 0], .int .i64 2]) (by simp [results, Try.results32, go_sem, e0, e1]) rfl ⟨_, _, _, rfl, ?_, ?_⟩
    · exact OwnRowE.nil _ _ _ (Nat.le_refl _)
    · exact (K1.out.bel.setCell (by show w.heap.size ≤ w.heap.size + 1; omega) _).setCell (by show w.heap.size ≤ w.heap.size + 1; omega) _
  · have HO := Lib.hid (Tells.no ho)
    clear ho
    go_enter Try.func32, Try.ntmps32
    go_wp2_with fail
    refine (implValidRel _ _ _ _ _ xss false _ (GridC.grid (K0.out.r 0 rfl :)) HO.out).mono ?_
    rintro e w1 ⟨rfl, hb1⟩
    have hsz1 : w.heap.size + 2 ≤ w1.heap.size := by have := hb1.size; simpa using this
    have K1 := Lib.hid (K0.out.below hb1)
    have HR1 := Lib.hid (HR0.out.below hb1)
    have cc0 := K1.out.c 0 rfl
    have cc1 := K1.out.c 1 rfl
    clear hb1 ck0 ck1
    have e0 := HR1.out.c 0 rfl
    have e1 := HR1.out.c 1 rfl
    have f0 := HR1.out.free 0
    have f1 := HR1.out.free 1
    go_wp2
    refine bodyPost_ret (v := .tuple #[.agg #[.int .i64 0, .slice none 0 0], .int .i64 1]) (by simp [results, Try.results32, go_sem, e0, e1]) rfl ⟨_, _, _, rfl, ?_, ?_⟩
    · exact OwnRowE.nil _ _ _ (Nat.le_refl _)
    · exact (K1.out.bel.setCell (by show w.heap.size ≤ w.heap.size + 1; omega) _).setCell (by show w.heap.size ≤ w.heap.size + 1; omega) _

end Go.Proofs.Ytnhamdjenmogjaa
