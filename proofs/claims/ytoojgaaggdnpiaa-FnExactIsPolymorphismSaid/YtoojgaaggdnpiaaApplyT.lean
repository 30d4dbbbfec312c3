/-
  What an operation makes of tuples: ApplyToTuples of the program and of the model.
-/
import Derived.Test.YtoojgaaggdnpiaaDepends
namespace Go.Proofs.Ytoojgaaggdnpiaa
open Go.RowKit

/-- So many tuples, all of one length. -/
def TupsP (size cnt : Int) (xss : List (List Int)) : Prop := (xss.length : Int) = cnt ∧ ∀ j, j < xss.length → TupP size (rowN xss 0).length (rowN xss j)
/-- The values at a place. -/
def colN (xss : List (List Int)) (p : Nat) : List Int := xss.map fun xs => intN xs p
theorem colN_len (xss : List (List Int)) (p : Nat) : (colN xss p).length = xss.length := by simp [colN]
theorem colN_at (xss : List (List Int)) (p q : Nat) (h : q < xss.length) : intN (colN xss p) q = intN (rowN xss q) p := by
  rw [intN_at _ _ (by rw [colN_len]; exact h), rowN_at _ _ h]
  simp [colN]
theorem TupsP.col {size cnt : Int} {xss : List (List Int)} (h : TupsP size cnt xss) (p : Nat) (hp : p < (rowN xss 0).length) : TupP size cnt (colN xss p) := by
  refine ⟨by rw [colN_len]; exact h.1, fun q hq => ?_⟩
  rw [colN_len] at hq
  rw [colN_at _ _ _ hq]
  have h1 := h.2 q hq
  exact h1.2 p (by have := h1.1; omega)
theorem SlAt.vcell {w : World} {b off n c m : Nat} {V : Nat → Value} (h : SlAt w (.slice (some ⟨b, off, none⟩) n c) m V) (k : Nat) (hk : k < m) : w.cell? ⟨b, off + k, none⟩ = some (V k) := by
  obtain ⟨a', c', hv, hn, hc⟩ := h
  simp only [Value.slice.injEq] at hv
  obtain ⟨rfl, rfl, rfl⟩ := hv
  obtain ⟨b', off', e, h⟩ := hc (by omega)
  simp only [Option.some.injEq, Addr.mk.injEq, and_true] at e
  obtain ⟨rfl, rfl⟩ := e
  exact h k hk

/-- What is made. -/
def madeN (size : Int) (tab : List Int) (xss : List (List Int)) (k : Nat) : List Int := (List.range k).map fun p => intN tab (codeN size (colN xss p))
theorem madeN_len (size : Int) (tab : List Int) (xss : List (List Int)) (k : Nat) : (madeN size tab xss k).length = k := by simp [madeN]
theorem madeN_succ (size : Int) (tab : List Int) (xss : List (List Int)) (k : Nat) : (madeN size tab xss (k + 1)).map (Value.int .i64) = (madeN size tab xss k).map (Value.int .i64) ++ [.int .i64 (intN tab (codeN size (colN xss k)))] := by simp [madeN, List.range_succ]
theorem madeN_range (size : Int) (tab : List Int) (xss : List (List Int)) (k : Nat) : (madeN size tab xss k).map (Value.int .i64) = (List.range k).map fun p => Value.int .i64 (intN tab (codeN size (colN xss p))) := by
  unfold madeN
  rw [List.map_map]
  rfl

def mapRA (F : Nat → Int) (k : Nat) : List Int := (List.range k).map F
theorem mapRA_len (F : Nat → Int) (k : Nat) : (mapRA F k).length = k := by simp [mapRA]
theorem mapRA_succ (F : Nat → Int) (k : Nat) : (mapRA F (k + 1)).map (Value.int .i64) = (mapRA F k).map (Value.int .i64) ++ [.int .i64 (F k)] := by simp [mapRA, List.range_succ]
theorem colN_mapRA (xss : List (List Int)) (p : Nat) : colN xss p = mapRA (fun i => intN (rowN xss i) p) xss.length := by
  refine row_ext (by rw [colN_len, mapRA_len]) fun i hi => ?_
  rw [colN_len] at hi
  have h := intN_at (mapRA (fun i => intN (rowN xss i) p) xss.length) i (by rw [mapRA_len]; exact hi)
  rw [colN_at _ _ _ hi, h]
  simp [mapRA]

/-- What ApplyToTuples answers. -/
def ApplyToTuplesIs (size ar : Int) (tab : List Int) (xss : List (List Int)) (zs : List Int) (cd : Int) : Prop :=
  (¬ OpOk size ar tab ∧ zs = [] ∧ cd = 1) ∨ (OpOk size ar tab ∧ ¬ TupsP size ar xss ∧ zs = [] ∧ cd = 2) ∨
    (OpOk size ar tab ∧ TupsP size ar xss ∧ xss.length + (xss.map List.length).sum ≤ 1048576 ∧ zs = madeN size tab xss (rowN xss 0).length ∧ cd = 0)
theorem ApplyToTuplesIs.exists (size ar : Int) (tab : List Int) (xss : List (List Int)) (hl : xss.length + (xss.map List.length).sum ≤ 1048576) : ∃ zs cd, ApplyToTuplesIs size ar tab xss zs cd := by
  by_cases h : OpOk size ar tab
  · by_cases k : TupsP size ar xss
    · exact ⟨_, _, .inr (.inr ⟨h, k, hl, rfl, rfl⟩)⟩
    · exact ⟨_, _, .inr (.inl ⟨h, k, rfl, rfl⟩)⟩
  · exact ⟨_, _, .inl ⟨h, rfl, rfl⟩⟩
theorem ApplyToTuplesIs.small {size ar : Int} {tab : List Int} {xss : List (List Int)} {zs : List Int} {cd : Int} (h : ApplyToTuplesIs size ar tab xss zs cd) : zs.length ≤ 1048576 := by
  rcases h with ⟨_, rfl, _⟩ | ⟨_, _, rfl, _⟩ | ⟨ho, ht, hl, rfl, _⟩
  · simp
  · simp
  · rw [madeN_len]
    have h1 : 0 < xss.length := by have := ht.1; have := ho.2.1.1; omega
    have := row_len_le xss 0 h1
    omega

set_option maxHeartbeats 4000000 in
set_option maxRecDepth 100000 in
theorem l02Make (size ar : Int) (pb po : Nat) (tab : List Int) (v : Value) (xss : List (List Int)) (w : World) (h : OpAt w pb po ar tab) (hv : GridAt w v xss) (ho : OpOk size ar tab) (ht : TupsP size ar xss) (hl : xss.length + (xss.map List.length).sum ≤ 1048576) :
    Calls Try.prog 137 #[.int .i64 size, .pointer (some ⟨pb, po, none⟩), v] w fun e w' => ∃ a n c, e = .returned (.slice a n c) ∧ OwnRowE w' w.heap.size w'.heap.size (.slice a n c) (madeN size tab xss (rowN xss 0).length) ∧ Below w.heap.size w w' := by
  obtain ⟨i0, hi0, hz0, hz1, hz2⟩ := info_parts info_int8
  have HP := Lib.hid h
  have HOO := Lib.hid ho
  have HTP := Lib.hid ht
  have hs1 := ho.1.1
  have hs2 := ho.1.2
  have hlen := ht.1
  obtain ⟨hr1, hr2⟩ := ho.2.1
  have hpos : 0 < xss.length := by omega
  have hM1 : (rowN xss 0).length ≤ 1048576 := by have := row_len_le xss 0 hpos; omega
  obtain ⟨V, hS, hV⟩ := hv
  obtain ⟨a', c', rfl, hn, hc⟩ := hS
  obtain ⟨b1, off1, rfl, hcell⟩ := hc hpos
  have HC := Lib.hid hcell
  have HV := Lib.hid hV
  have hx0 := hcell 0 hpos
  obtain ⟨a0, c0, hv0, hn0, -⟩ := hV 0 hpos
  rw [hv0, Nat.add_zero] at hx0
  have HLEN := Lib.hid hlen
  have hlt0 : (0 : Int) < (xss.length : Int) := by omega
  have hlen4 : xss.length ≤ 4 := by omega
  clear h ho ht hc hcell hV hv0 hlen
  generalize hM : (rowN xss 0).length = M at *
  have HM := Lib.hid hM
  clear hM
  go_enter Try.func137, Try.ntmps137
  go_wp2
  go_loopw [7, 8] (fun v i wr => ∃ (p : Nat) (a : Option Addr) (n c : Nat), p ≤ M ∧ i = .int .i64 p ∧ v = .slice a n c ∧ wr.ownsRow w.heap.size 2 1 (.slice a n c) p ((madeN size tab xss p).map (Value.int .i64)) ∧ Below w.heap.size w wr) (fun _ i _ => M - (intOf i).toNat)
  case atStart => exact ⟨0, _, _, _, Nat.zero_le _, rfl, rfl, ownRow_lit w w.heap.size [] (Nat.le_refl _) (by simp), (Below.refl _ _).alloc (Nat.le_refl _) _⟩
  case round =>
    obtain ⟨p, ao, no, co, hp, rfl, rfl, hown, hbel⟩ := hrel
    have HO1 := Lib.hid hown
    have HB1 := Lib.hid hbel
    have hxr := below_cell hbel hx0
    clear hown hbel
    by_cases hpm : p < M
    · have hpm' : (p : Int) < (M : Int) := by omega
      have hTC := Lib.hid (HTP.out.col p (by rw [HM.out]; exact hpm))
      obtain ⟨wo, rfl⟩ : ∃ wo : World, wo = wr := ⟨_, rfl⟩
      go_wp2
      go_loopw [9, 10] (fun v i wr => ∃ (q : Nat) (a : Option Addr) (n c : Nat), q ≤ xss.length ∧ i = .int .i64 q ∧ v = .slice a n c ∧ wr.ownsRow wo.heap.size 2 1 (.slice a n c) q ((mapRA (fun i => intN (rowN xss i) p) q).map (Value.int .i64)) ∧ Below wo.heap.size wo wr) (fun _ i _ => xss.length - (intOf i).toNat)
      case atStart => exact ⟨0, _, _, _, Nat.zero_le _, rfl, rfl, ownRow_lit wo wo.heap.size [] (Nat.le_refl _) (by simp), (Below.refl _ _).alloc (Nat.le_refl _) _⟩
      case round =>
        obtain ⟨q, ai, ni, ci, hq, rfl, rfl, hown, hbel⟩ := hrel
        have HO2 := Lib.hid hown
        have HB2 := Lib.hid hbel
        clear hown hbel hxr
        by_cases hqt : q < xss.length
        · have hx1 := below_cell HB2.out (below_cell HB1.out (HC.out q hqt))
          obtain ⟨a3, c3, hv3, hn3, hc3⟩ := HV.out q hqt
          have hl3 := (HTP.out.2 q hqt).1
          rw [HM.out] at hl3
          obtain ⟨b3, off3, rfl, hcell3⟩ := hc3 (by omega)
          have hx3 := below_cell HB2.out (below_cell HB1.out (hcell3 p (by omega)))
          rw [hv3] at hx1
          have hl3' : (rowN xss q).length = M := by omega
          rw [hl3'] at hx1
          have hqt' : (q : Int) < (xss.length : Int) := by omega
          have hc1 := cell_one_new wr (.int .i64 (intN (rowN xss q) p)) 2
          have HC1 := Lib.hid hc1
          clear hcell3 hv3 hl3 hl3' hc1
          go_wp2_with (at_builtin; refine wpList_append_own _ rfl _ _ 22 rfl wo.heap.size 2 i0 (.int .i64 0) 1 8 Try.underlying22 hi0 hz0 hz1 hz2 rfl (by decide) (.slice ai ni ci) q _ rfl (HO2.out.alloc _) ⟨wr.heap.size, 0, none⟩ 1 1 [.int .i64 (intN (rowN xss q) p)] rfl rfl HC1.out (by simp [Value.oneCell']) (by unfold maxLen; omega) (by omega) (by have := HB2.out.size; simp; omega) ?_; intro v' w3 hown' hgrow _; obtain ⟨g', c', rfl⟩ := ownsRow_succ hown'; have HG3 := Lib.hid hown'; have HR3 := Lib.hid hgrow; clear hown' hgrow)
          go_roundw
          case rel =>
            refine ⟨q + 1, _, _, _, by omega, by go_num, rfl, ?_, ((HB2.out.alloc HB2.out.size _).grown HR3.out (by have := HB2.out.size; simp; omega) (fun q hq => (HO2.out.lt q hq).1))⟩
            rw [mapRA_succ]; exact HG3.out
          case measure => simp [intOf]; omega
        · obtain rfl : q = xss.length := by omega
          have HE : Hid (RowAt wr (.slice ai ni ci) (colN xss p)) := by
            have h : OwnRow wr wo.heap.size (.slice ai ni ci) (colN xss p) := by
              show World.ownsRow _ _ _ _ _ _ _
              rw [colN_len, colN_mapRA]
              exact HO2.out
            exact h.rowAt
          have HB3 := Lib.hid (HB1.out.trans (HB2.out.mono HB1.out.size))
          have HO3 := Lib.hid (ownsRow_below HO1.out HB2.out)
          clear HO2
          go_wp2_with fail
          refine (l02Value _ _ _ _ _ _ _ _ (HP.out.below HB3.out) HE.out HOO.out hTC.out).mono ?_
          rintro e w4 ⟨rfl, hq4⟩
          have HB4 := Lib.hid (HB3.out.trans (hq4.below _))
          have HO4 := Lib.hid (ownsRow_below HO3.out (hq4.below _))
          have hc1 := cell_one_new w4 (.int .i64 (intN tab (codeN size (colN xss p)))) 2
          have HC1 := Lib.hid hc1
          clear hq4 hc1 HO3 HB3
          go_wp2_with (at_builtin; refine wpList_append_own _ rfl _ _ 22 rfl w.heap.size 2 i0 (.int .i64 0) 1 8 Try.underlying22 hi0 hz0 hz1 hz2 rfl (by decide) (.slice ao no co) p _ rfl (HO4.out.alloc _) ⟨w4.heap.size, 0, none⟩ 1 1 [.int .i64 (intN tab (codeN size (colN xss p)))] rfl rfl HC1.out (by simp [Value.oneCell']) (by unfold maxLen; omega) (by omega) (by have := HB4.out.size; simp; omega) ?_; intro v' w3 hown' hgrow _; obtain ⟨g', c', rfl⟩ := ownsRow_succ hown'; have HG3 := Lib.hid hown'; have HR3 := Lib.hid hgrow; clear hown' hgrow)
          go_roundw
          case rel =>
            refine ⟨p + 1, _, _, _, by omega, by go_num, rfl, ?_, ((HB4.out.alloc HB4.out.size _).grown HR3.out (by have := HB4.out.size; simp; omega) (fun q hq => (HO4.out.lt q hq).1))⟩
            rw [madeN_succ]; exact HG3.out
          case measure => simp [intOf]; omega
    · obtain rfl : p = M := by omega
      have HE : Hid (OwnRow wr w.heap.size (.slice ao no co) (madeN size tab xss p)) := by
        show World.ownsRow _ _ _ _ _ _ _
        rw [madeN_len]
        exact HO1.out
      clear HO1
      go_wp2
      go_ret
      exact ⟨_, _, _, rfl, HE.out.full, HB1.out⟩

end Go.Proofs.Ytoojgaaggdnpiaa
