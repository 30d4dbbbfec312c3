/-
  What an operation makes of tuples: ApplyToTuples of the program and of the model.
-/
import Derived.Test.YtpkmdieaifggoaaDepends
namespace Go.Proofs.Ytpkmdieaifggoaa
open Go.RowKit

/-- So many tuples, all of one length. -/
def TupsP (size cnt : Int) (xss : List (List Int)) : Prop := (xss.length : Int) = cnt ∧ ∀ j, j < xss.length → TupP size (rowN xss 0).length (rowN xss j)
/-- The values at a place. -/
def colN (xss : List (List Int)) (p : Nat) : List Int := xss.map fun xs => intN xs p
theorem colN_len (xss : List (List Int)) (p : Nat) : (colN xss p).length = xss.length := by simp [colN]
theorem colN_at (xss : List (List Int)) (p q : Nat) (h : q < xss.length) : intN (colN xss p) q = intN (rowN xss q) p := by
  rw [intN_at _ _ (by rw [colN_len]; exact h), rowN_at _ _ h]
  simp [colN]
theorem TupsP.col {size cnt : Int} {xss : List (List Int)} (h : TupsP size cnt xss) (p : Nat) (hp : p < (rowN xss 0).length) : TupP size cnt (colN xss p) := by
  refine ⟨by rw [colN_len]; exact h.1, fun q hq => ?_⟩
  rw [colN_len] at hq
  rw [colN_at _ _ _ hq]
  have h1 := h.2 q hq
  exact h1.2 p (by have := h1.1; omega)
theorem SlAt.vcell {w : World} {b off n c m : Nat} {V : Nat → Value} (h : SlAt w (.slice (some ⟨b, off, none⟩) n c) m V) (k : Nat) (hk : k < m) : w.cell? ⟨b, off + k, none⟩ = some (V k) := by
  obtain ⟨a', c', hv, hn, hc⟩ := h
  simp only [Value.slice.injEq] at hv
  obtain ⟨rfl, rfl, rfl⟩ := hv
  obtain ⟨b', off', e, h⟩ := hc (by omega)
  simp only [Option.some.injEq, Addr.mk.injEq, and_true] at e
  obtain ⟨rfl, rfl⟩ := e
  exact h k hk

/-- What is made. -/
def madeN (size : Int) (tab : List Int) (xss : List (List Int)) (k : Nat) : List Int := (List.range k).map fun p => intN tab (codeN size (colN xss p))
theorem madeN_len (size : Int) (tab : List Int) (xss : List (List Int)) (k : Nat) : (madeN size tab xss k).length = k := by simp [madeN]
theorem madeN_succ (size : Int) (tab : List Int) (xss : List (List Int)) (k : Nat) : (madeN size tab xss (k + 1)).map (Value.int .i64) = (madeN size tab xss k).map (Value.int .i64) ++ [.int .i64 (intN tab (codeN size (colN xss k)))] := by simp [madeN, List.range_succ]
theorem madeN_range (size : Int) (tab : List Int) (xss : List (List Int)) (k : Nat) : (madeN size tab xss k).map (Value.int .i64) = (List.range k).map fun p => Value.int .i64 (intN tab (codeN size (colN xss p))) := by
  unfold madeN
  rw [List.map_map]
  rfl

def mapR (F : Nat → Int) (k : Nat) : List Int := (List.range k).map F
theorem mapR_len (F : Nat → Int) (k : Nat) : (mapR F k).length = k := by simp [mapR]
theorem mapR_succ (F : Nat → Int) (k : Nat) : (mapR F (k + 1)).map (Value.int .i64) = (mapR F k).map (Value.int .i64) ++ [.int .i64 (F k)] := by simp [mapR, List.range_succ]
theorem colN_mapR (xss : List (List Int)) (p : Nat) : colN xss p = mapR (fun i => intN (rowN xss i) p) xss.length := by
  refine row_ext (by rw [colN_len, mapR_len]) fun i hi => ?_
  rw [colN_len] at hi
  have h := intN_at (mapR (fun i => intN (rowN xss i) p) xss.length) i (by rw [mapR_len]; exact hi)
  rw [colN_at _ _ _ hi, h]
  simp [mapR]

/-- What ApplyToTuples answers. -/
def ApplyToTuplesIs (size ar : Int) (tab : List Int) (xss : List (List Int)) (zs : List Int) (cd : Int) : Prop :=
  (¬ OpOk size ar tab ∧ zs = [] ∧ cd = 1) ∨ (OpOk size ar tab ∧ ¬ TupsP size ar xss ∧ zs = [] ∧ cd = 2) ∨
    (OpOk size ar tab ∧ TupsP size ar xss ∧ xss.length + (xss.map List.length).sum ≤ 1048576 ∧ zs = madeN size tab xss (rowN xss 0).length ∧ cd = 0)
theorem ApplyToTuplesIs.exists (size ar : Int) (tab : List Int) (xss : List (List Int)) (hl : xss.length + (xss.map List.length).sum ≤ 1048576) : ∃ zs cd, ApplyToTuplesIs size ar tab xss zs cd := by
  by_cases h : OpOk size ar tab
  · by_cases k : TupsP size ar xss
    · exact ⟨_, _, .inr (.inr ⟨h, k, hl, rfl, rfl⟩)⟩
    · exact ⟨_, _, .inr (.inl ⟨h, k, rfl, rfl⟩)⟩
  · exact ⟨_, _, .inl ⟨h, rfl, rfl⟩⟩
theorem ApplyToTuplesIs.small {size ar : Int} {tab : List Int} {xss : List (List Int)} {zs : List Int} {cd : Int} (h : ApplyToTuplesIs size ar tab xss zs cd) : zs.length ≤ 1048576 := by
  rcases h with ⟨_, rfl, _⟩ | ⟨_, _, rfl, _⟩ | ⟨ho, ht, hl, rfl, _⟩
  · simp
  · simp
  · rw [madeN_len]
    have h1 : 0 < xss.length := by have := ht.1; have := ho.2.1.1; omega
    have := row_len_le xss 0 h1
    omega

set_option maxHeartbeats 1000000 in
set_option maxRecDepth 100000 in
theorem areTuplesOf (size cnt : Int) (v : Value) (xss : List (List Int)) (b : Bool) (w : World) (h : GridAt w v xss) (hb : Tells b (TupsP size cnt xss)) :
    Calls Try.prog 82 #[.int .i64 size, .int .i64 cnt, v] w fun e w' => e = .returned (.bool b) ∧ w = w' := by
  obtain ⟨V, ⟨a, c, rfl, hn, hc⟩, hV⟩ := h
  have HC := Lib.hid hc
  have HV := Lib.hid hV
  have HB := Lib.hid hb
  clear hc hV hb
  by_cases hl : (xss.length : Int) = cnt
  · have HL := Lib.hid hl
    have hlb : ((xss.length : Int) != cnt) = false := by simp [hl]
    have hlb' : ((xss.length : Int) == cnt) = true := by simp [hl]
    clear hl
    go_enter Try.func82, Try.ntmps82
    go_wp2
    go_loop [15] (fun i => ∃ k : Nat, k ≤ xss.length ∧ i = .int .i64 k ∧ ∀ j, j < k → TupP size (rowN xss 0).length (rowN xss j)) (fun i => xss.length - (intOf i).toNat)
    case atStart => exact ⟨0, Nat.zero_le _, rfl, fun j hj => absurd hj (Nat.not_lt_zero _)⟩
    case round =>
      obtain ⟨k, hk, rfl, hall⟩ := hrel
      have HA := Lib.hid hall
      clear hall
      by_cases hlt : k < xss.length
      · obtain ⟨b1, off1, ha1, hcell1⟩ := HC.out (by omega)
        subst ha1
        have hx1 := hcell1 k hlt
        have hx0 := hcell1 0 (by omega)
        have hlt' : (k : Int) < (xss.length : Int) := by omega
        have hlt0 : (0 : Int) < (xss.length : Int) := by omega
        obtain ⟨a0, c0, hv0, hn0, -⟩ := HV.out 0 (by omega)
        rw [hv0, Nat.add_zero] at hx0
        have HR := Lib.hid (HV.out k hlt)
        clear hcell1 hv0
        by_cases ht : TupP size (rowN xss 0).length (rowN xss k)
        · have HT := Lib.hid (Tells.yes ht)
          have HTP := Lib.hid ht
          clear ht
          go_wp2_with (go_at_call 58; refine (isListBelow _ _ _ _ true _ HR.out HT.out).mono ?_; rintro e w' ⟨rfl, rfl⟩)
          go_round
          case rel =>
            refine ⟨k + 1, by omega, by go_num, fun j hj => ?_⟩
            by_cases hjk : j = k
            · subst hjk; exact HTP.out
            · exact HA.out j (by omega)
          case measure => simp [intOf]; omega
        · have HT := Lib.hid (Tells.no ht)
          have HF := Lib.hid (HB.out.is_false fun h => ht (h.2 k hlt))
          clear ht
          go_wp2_with (go_at_call 58; refine (isListBelow _ _ _ _ false _ HR.out HT.out).mono ?_; rintro e w' ⟨rfl, rfl⟩)
          go_ret
          exact ⟨ret_bool HF.out.symm, rfl⟩
      · obtain rfl : k = xss.length := by omega
        have HF := Lib.hid (HB.out.is_true ⟨HL.out, HA.out⟩)
        go_wp2
        go_ret
        exact ⟨ret_bool HF.out.symm, rfl⟩
  · have HF := Lib.hid (HB.out.is_false fun h => hl h.1)
    have hlb : ((xss.length : Int) != cnt) = true := by simp [hl]
    have hlb' : ((xss.length : Int) == cnt) = false := by simp [hl]
    go_enter Try.func82, Try.ntmps82
    go_wp2
    go_ret
    exact ⟨ret_bool HF.out.symm, rfl⟩

set_option maxHeartbeats 4000000 in
set_option maxRecDepth 100000 in
theorem implApplyToTuples (size : Int) (ar : Int) (a : Option Addr) (n c : Nat) (tab : List Int) (v : Value) (xss : List (List Int)) (zs : List Int) (cd : Int) (w : World) (h : RowAt w (.slice a n c) tab) (hv : GridAt w v xss) (hi : ApplyToTuplesIs size ar tab xss zs cd) :
    Calls Try.prog 45 #[.int .i64 size, .agg #[.int .i64 ar, .slice a n c], v] w (MadeRow2 w zs cd) := by
  have K0 := Lib.hid ((((Kept.start w).read (lives_grid _ _) hv).read (lives_row _ _) h).box w.heap.size rfl (.int .i64 ar) (.slice a n c) 27)
  clear h hv
  rcases hi with ⟨ho, rfl, rfl⟩ | ⟨ho, ht, rfl, rfl⟩ | ⟨ho, ht, hl, rfl, rfl⟩
  · have HO := Lib.hid (Tells.no ho)
    clear ho
    go_enter Try.func45, Try.ntmps45
    go_wp2_with fail
    refine (implValidOp _ _ _ _ _ _ false _ (K0.out.r 0 rfl :) HO.out).mono ?_
    rintro e w1 ⟨rfl, hb1⟩
    have KE := Lib.hid (K0.out.below hb1)
    clear hb1
    go_wp2
    go_ret2
    exact ⟨_, _, _, rfl, OwnRowE.nil _ _ _ (Nat.le_refl _), KE.out.bel⟩
  · have HO := Lib.hid (Tells.yes ho)
    have HT := Lib.hid (Tells.no ht)
    clear ho ht
    go_enter Try.func45, Try.ntmps45
    go_wp2_with fail
    refine (implValidOp _ _ _ _ _ _ true _ (K0.out.r 0 rfl :) HO.out).mono ?_
    rintro e w1 ⟨rfl, hb1⟩
    have K1 := Lib.hid (K0.out.below hb1)
    have cc0 := K1.out.c 0 rfl
    clear hb1
    go_wp2_with fail
    refine (areTuplesOf _ _ _ _ false _ (K1.out.r 1 rfl :) HT.out).mono ?_
    rintro e w2 ⟨rfl, rfl⟩
    go_wp2
    go_ret2
    exact ⟨_, _, _, rfl, OwnRowE.nil _ _ _ (Nat.le_refl _), K1.out.bel⟩
  · have HO := Lib.hid (Tells.yes ho)
    have HT := Lib.hid (Tells.yes ht)
    have HTP := Lib.hid ht
    have HOO := Lib.hid ho
    have hs1 := ho.1.1
    have hs2 := ho.1.2
    have hlen := ht.1
    have har := ho.2.1
    obtain ⟨hr1, hr2⟩ := har
    have hpos : 0 < xss.length := by omega
    have hM1 : (rowN xss 0).length ≤ 1048576 := by have := row_len_le xss 0 hpos; omega
    obtain ⟨i0, hi0, hz0, hz1, hz2⟩ := info_parts info_int
    clear ho ht
    obtain ⟨V, ⟨a', c', rfl, hn, hc⟩, hV⟩ := K0.out.grid 1 rfl
    obtain ⟨b1, off1, rfl, -⟩ := hc hpos
    have HLEN := Lib.hid hlen
    clear hc hV hlen V
    go_enter Try.func45, Try.ntmps45
    go_wp2_with fail
    refine (implValidOp _ _ _ _ _ _ true _ (K0.out.r 0 rfl :) HO.out).mono ?_
    rintro e w1 ⟨rfl, hb1⟩
    have K1 := Lib.hid (K0.out.below hb1)
    have cc0 := K1.out.c 0 rfl
    have cc1 := K1.out.c 1 rfl
    clear hb1
    go_wp2_with fail
    refine (areTuplesOf _ _ _ _ true _ (K1.out.r 1 rfl :) HT.out).mono ?_
    rintro e w2 ⟨rfl, rfl⟩
    obtain ⟨V, hS, hV⟩ := K1.out.grid 1 rfl
    have hx0 := SlAt.vcell hS 0 hpos
    obtain ⟨a0, c0, hv0, hn0, -⟩ := hV 0 hpos
    rw [hv0, Nat.add_zero] at hx0
    have HV := Lib.hid hV
    have HS := Lib.hid hS
    have hlt0 : (0 : Int) < (xss.length : Int) := by omega
    have hcl : ∀ p, p < (rowN xss 0).length → codeN size (colN xss p) < tab.length := fun p hp => HOO.out.lt (HTP.out.col p hp)
    have HCL := Lib.hid hcl
    have htl : tab.length ≤ 9223372036854775807 := by obtain ⟨_, _, _, hn, _⟩ := K1.out.row 0 rfl; exact hn
    have htpos : 0 < tab.length := by have := HOO.out.2.2.1; have := (pow_le4 (size := size.toNat) (by omega) (by omega) ar.toNat (by omega)).2; omega
    obtain ⟨bt, offt, rfl, rfl, -⟩ := SlAt.some_of (K1.out.row 0 rfl) 0 htpos
    clear hS hV hv0 hcl
    generalize hM : (rowN xss 0).length = M at *
    have HM := Lib.hid hM
    clear hM
    go_wp2_with (at_make; refine wpList_make_full _ rfl _ _ 22 rfl w1.heap.size 2 i0 (.int .i64 0) 1 Try.underlying22 hi0 hz0 hz1 .i64 .i64 _ _ M rfl rfl rfl rfl (by rw [hz2]; omega) (by unfold maxLen; omega) (Nat.le_refl _) ?_; intro w2 hown hgrow)
    have hown0 : w2.ownsRow w1.heap.size 2 1 (.slice (some ⟨w1.heap.size, 0, none⟩) M M) M (upto M 0 (fun p => .int .i64 (intN tab (codeN size (colN xss p)))) (.int .i64 0)) := by
      rw [upto_zero, ← toList_madeCells_one]
      simpa [Value.cells] using hown
    have hb0 : Below w1.heap.size w1 w2 := (Below.refl _ _).grown hgrow (Nat.le_refl _) (fun _ h => by simp at h)
    have HO0 := Lib.hid hown0
    have HB0 := Lib.hid hb0
    clear hown hgrow hown0 hb0
    go_loopw [30] (fun i wr => ∃ p : Nat, p ≤ M ∧ i = .int .i64 p ∧ wr.ownsRow w1.heap.size 2 1 (.slice (some ⟨w1.heap.size, 0, none⟩) M M) M (upto M p (fun p => .int .i64 (intN tab (codeN size (colN xss p)))) (.int .i64 0)) ∧ Below w1.heap.size w1 wr) (fun i _ => M - (intOf i).toNat)
    case atStart => exact ⟨0, Nat.zero_le _, rfl, HO0.out, HB0.out⟩
    case round =>
      obtain ⟨p, hp, rfl, hown, hbel⟩ := hrel
      clear HO0 HB0
      have HW := Lib.hid hbel
      have HO1 := Lib.hid hown
      clear hbel hown
      by_cases hpm : p < M
      · have hpm' : (p : Int) < (M : Int) := by omega
        have hTC := Lib.hid (HTP.out.col p (by rw [HM.out]; exact hpm))
        have hcd1 := below_cell HW.out cc1
        have hclp := HCL.out p hpm
        go_wp2
        go_loop [10, 35] (fun m i => ∃ q : Nat, q ≤ xss.length ∧ i = .int .i64 q ∧ m = .int .i64 (codeK size (colN xss p) q)) (fun _ i => xss.length - (intOf i).toNat)
        case atStart => exact ⟨0, Nat.zero_le _, rfl, rfl⟩
        case round =>
          obtain ⟨q, hq, rfl, hm⟩ := hrel
          by_cases hqt : q < xss.length
          · subst hm
            have hx1 := below_cell HW.out (SlAt.vcell HS.out q hqt)
            obtain ⟨a3, c3, hv3, hn3, hc3⟩ := HV.out q hqt
            have hl3 := (HTP.out.2 q hqt).1
            rw [HM.out] at hl3
            obtain ⟨b3, off3, rfl, hcell3⟩ := hc3 (by omega)
            have hx3 := below_cell HW.out (hcell3 p (by omega))
            rw [hv3] at hx1
            have hl3' : (rowN xss q).length = M := by omega
            rw [hl3'] at hx1
            have hqt' : (q : Int) < (xss.length : Int) := by omega
            have hlen4 : xss.length ≤ 4 := by have := HLEN.out; omega
            obtain ⟨r0, r1⟩ := codeK_lt (xs := colN xss p) hs1 hs2 q (by omega) fun j hj => hTC.out.2 j (by rw [colN_len]; omega)
            obtain ⟨g0, g1⟩ := hTC.out.2 q (by rw [colN_len]; exact hqt)
            rw [colN_at _ _ _ hqt] at g0 g1
            have hm0 : 0 ≤ codeK size (colN xss p) q * size := Int.mul_nonneg r0 (by omega)
            have hm1 : codeK size (colN xss p) q * size ≤ 1024 := by
              have : codeK size (colN xss p) q * size ≤ codeK size (colN xss p) q * 4 := Int.mul_le_mul_of_nonneg_left hs2 r0
              omega
            have HST : Hid (codeK size (colN xss p) (q + 1) = codeK size (colN xss p) q * size + intN (rowN xss q) p) := Lib.hid (by
              show _ * _ + _ = _
              rw [colN_at _ _ _ hqt])
            clear hcell3 hv3 hl3 hl3'
            go_wp2
            go_round
            case rel => exact ⟨q + 1, by omega, by go_num, by rw [HST.out]⟩
            case measure => simp [intOf]; omega
          · obtain rfl : q = xss.length := by omega
            have HEND : Hid (codeK size (colN xss p) xss.length = (codeN size (colN xss p) : Int)) := Lib.hid (by
              have := codeN_cast hTC.out HOO.out.1 HOO.out.2.1.in14
              unfold code at this
              rwa [colN_len] at this)
            rw [HEND.out] at hm
            subst hm
            have hct := SlAt.cell_of ((K1.out.below HW.out).row 0 rfl) _ hclp
            have hclpI : (codeN size (colN xss p) : Int) < (tab.length : Int) := by omega
            have hc2 := HO1.out.cellAt p (by omega)
            rw [upto_at _ _ _ _ _ hpm, if_neg (by omega)] at hc2
            have hf2 := HO1.out.frozenAt p
            have hst := Lib.hid (HO1.out.stored p (.int .i64 (intN tab (codeN size (colN xss p)))))
            generalize hcn : codeN size (colN xss p) = cn at *
            have HCN := Lib.hid hcn
            clear hcn
            clear HO1
            go_wp2
            go_roundw
            case rel => exact ⟨p + 1, by omega, by go_num, by have h := hst.out.1; rwa [upto_set _ _ _ _ _ (by rw [HCN.out])] at h, HW.out.setCell (Nat.le_refl _) _⟩
            case measure => simp [intOf]; omega
      · obtain rfl : p = M := by omega
        have HE : Hid (OwnRow wr w1.heap.size (.slice (some ⟨w1.heap.size, 0, none⟩) p p) (madeN size tab xss p)) := by
          show World.ownsRow _ _ _ _ _ _ _
          rw [madeN_len, madeN_range, ← upto_all p _ (.int .i64 0)]
          exact HO1.out
        clear HO1
        go_wp2
        go_ret2
        exact ⟨_, _, _, rfl, (HE.out.full).mono K1.out.bel.size, (K1.out.below HW.out).bel⟩

set_option maxHeartbeats 4000000 in
set_option maxRecDepth 100000 in
theorem l02Make (size ar : Int) (pb po : Nat) (tab : List Int) (v : Value) (xss : List (List Int)) (w : World) (h : OpAt w pb po ar tab) (hv : GridAt w v xss) (ho : OpOk size ar tab) (ht : TupsP size ar xss) (hl : xss.length + (xss.map List.length).sum ≤ 1048576) :
    Calls Try.prog 81 #[.int .i64 size, .pointer (some ⟨pb, po, none⟩), v] w fun e w' => ∃ a n c, e = .returned (.slice a n c) ∧ OwnRowE w' w.heap.size w'.heap.size (.slice a n c) (madeN size tab xss (rowN xss 0).length) ∧ Below w.heap.size w w' := by
  obtain ⟨i0, hi0, hz0, hz1, hz2⟩ := info_parts info_int8
  have HP := Lib.hid h
  have HOO := Lib.hid ho
  have HTP := Lib.hid ht
  have hs1 := ho.1.1
  have hs2 := ho.1.2
  have hlen := ht.1
  obtain ⟨hr1, hr2⟩ := ho.2.1
  have hpos : 0 < xss.length := by omega
  have hM1 : (rowN xss 0).length ≤ 1048576 := by have := row_len_le xss 0 hpos; omega
  obtain ⟨V, hS, hV⟩ := hv
  obtain ⟨a', c', rfl, hn, hc⟩ := hS
  obtain ⟨b1, off1, rfl, hcell⟩ := hc hpos
  have HC := Lib.hid hcell
  have HV := Lib.hid hV
  have hx0 := hcell 0 hpos
  obtain ⟨a0, c0, hv0, hn0, -⟩ := hV 0 hpos
  rw [hv0, Nat.add_zero] at hx0
  have HLEN := Lib.hid hlen
  have hlt0 : (0 : Int) < (xss.length : Int) := by omega
  have hlen4 : xss.length ≤ 4 := by omega
  clear h ho ht hc hcell hV hv0 hlen
  generalize hM : (rowN xss 0).length = M at *
  have HM := Lib.hid hM
  clear hM
  go_enter Try.func81, Try.ntmps81
  go_wp2
  go_loopw [7, 8] (fun v i wr => ∃ (p : Nat) (a : Option Addr) (n c : Nat), p ≤ M ∧ i = .int .i64 p ∧ v = .slice a n c ∧ wr.ownsRow w.heap.size 2 1 (.slice a n c) p ((madeN size tab xss p).map (Value.int .i64)) ∧ Below w.heap.size w wr) (fun _ i _ => M - (intOf i).toNat)
  case atStart => exact ⟨0, _, _, _, Nat.zero_le _, rfl, rfl, ownRow_lit w w.heap.size [] (Nat.le_refl _) (by simp), (Below.refl _ _).alloc (Nat.le_refl _) _⟩
  case round =>
    obtain ⟨p, ao, no, co, hp, rfl, rfl, hown, hbel⟩ := hrel
    have HO1 := Lib.hid hown
    have HB1 := Lib.hid hbel
    have hxr := below_cell hbel hx0
    clear hown hbel
    by_cases hpm : p < M
    · have hpm' : (p : Int) < (M : Int) := by omega
      have hTC := Lib.hid (HTP.out.col p (by rw [HM.out]; exact hpm))
      obtain ⟨wo, rfl⟩ : ∃ wo : World, wo = wr := ⟨_, rfl⟩
      go_wp2
      go_loopw [9, 10] (fun v i wr => ∃ (q : Nat) (a : Option Addr) (n c : Nat), q ≤ xss.length ∧ i = .int .i64 q ∧ v = .slice a n c ∧ wr.ownsRow wo.heap.size 2 1 (.slice a n c) q ((mapR (fun i => intN (rowN xss i) p) q).map (Value.int .i64)) ∧ Below wo.heap.size wo wr) (fun _ i _ => xss.length - (intOf i).toNat)
      case atStart => exact ⟨0, _, _, _, Nat.zero_le _, rfl, rfl, ownRow_lit wo wo.heap.size [] (Nat.le_refl _) (by simp), (Below.refl _ _).alloc (Nat.le_refl _) _⟩
      case round =>
        obtain ⟨q, ai, ni, ci, hq, rfl, rfl, hown, hbel⟩ := hrel
        have HO2 := Lib.hid hown
        have HB2 := Lib.hid hbel
        clear hown hbel hxr
        by_cases hqt : q < xss.length
        · have hx1 := below_cell HB2.out (below_cell HB1.out (HC.out q hqt))
          obtain ⟨a3, c3, hv3, hn3, hc3⟩ := HV.out q hqt
          have hl3 := (HTP.out.2 q hqt).1
          rw [HM.out] at hl3
          obtain ⟨b3, off3, rfl, hcell3⟩ := hc3 (by omega)
          have hx3 := below_cell HB2.out (below_cell HB1.out (hcell3 p (by omega)))
          rw [hv3] at hx1
          have hl3' : (rowN xss q).length = M := by omega
          rw [hl3'] at hx1
          have hqt' : (q : Int) < (xss.length : Int) := by omega
          have hc1 := cell_one_new wr (.int .i64 (intN (rowN xss q) p)) 2
          have HC1 := Lib.hid hc1
          clear hcell3 hv3 hl3 hl3' hc1
          go_wp2_with (at_builtin; refine wpList_append_own _ rfl _ _ 22 rfl wo.heap.size 2 i0 (.int .i64 0) 1 8 Try.underlying22 hi0 hz0 hz1 hz2 rfl (by decide) (.slice ai ni ci) q _ rfl (HO2.out.alloc _) ⟨wr.heap.size, 0, none⟩ 1 1 [.int .i64 (intN (rowN xss q) p)] rfl rfl HC1.out (by simp [Value.oneCell']) (by unfold maxLen; omega) (by omega) (by have := HB2.out.size; simp; omega) ?_; intro v' w3 hown' hgrow _; obtain ⟨g', c', rfl⟩ := ownsRow_succ hown'; have HG3 := Lib.hid hown'; have HR3 := Lib.hid hgrow; clear hown' hgrow)
          go_roundw
          case rel =>
            refine ⟨q + 1, _, _, _, by omega, by go_num, rfl, ?_, ((HB2.out.alloc HB2.out.size _).grown HR3.out (by have := HB2.out.size; simp; omega) (fun q hq => (HO2.out.lt q hq).1))⟩
            rw [mapR_succ]; exact HG3.out
          case measure => simp [intOf]; omega
        · obtain rfl : q = xss.length := by omega
          have HE : Hid (RowAt wr (.slice ai ni ci) (colN xss p)) := by
            have h : OwnRow wr wo.heap.size (.slice ai ni ci) (colN xss p) := by
              show World.ownsRow _ _ _ _ _ _ _
              rw [colN_len, colN_mapR]
              exact HO2.out
            exact h.rowAt
          have HB3 := Lib.hid (HB1.out.trans (HB2.out.mono HB1.out.size))
          have HO3 := Lib.hid (ownsRow_below HO1.out HB2.out)
          clear HO2
          go_wp2_with fail
          refine (l02Value _ _ _ _ _ _ _ _ (HP.out.below HB3.out) HE.out HOO.out hTC.out).mono ?_
          rintro e w4 ⟨rfl, hq4⟩
          have HB4 := Lib.hid (HB3.out.trans (hq4.below _))
          have HO4 := Lib.hid (ownsRow_below HO3.out (hq4.below _))
          have hc1 := cell_one_new w4 (.int .i64 (intN tab (codeN size (colN xss p)))) 2
          have HC1 := Lib.hid hc1
          clear hq4 hc1 HO3 HB3
          go_wp2_with (at_builtin; refine wpList_append_own _ rfl _ _ 22 rfl w.heap.size 2 i0 (.int .i64 0) 1 8 Try.underlying22 hi0 hz0 hz1 hz2 rfl (by decide) (.slice ao no co) p _ rfl (HO4.out.alloc _) ⟨w4.heap.size, 0, none⟩ 1 1 [.int .i64 (intN tab (codeN size (colN xss p)))] rfl rfl HC1.out (by simp [Value.oneCell']) (by unfold maxLen; omega) (by omega) (by have := HB4.out.size; simp; omega) ?_; intro v' w3 hown' hgrow _; obtain ⟨g', c', rfl⟩ := ownsRow_succ hown'; have HG3 := Lib.hid hown'; have HR3 := Lib.hid hgrow; clear hown' hgrow)
          go_roundw
          case rel =>
            refine ⟨p + 1, _, _, _, by omega, by go_num, rfl, ?_, ((HB4.out.alloc HB4.out.size _).grown HR3.out (by have := HB4.out.size; simp; omega) (fun q hq => (HO4.out.lt q hq).1))⟩
            rw [madeN_succ]; exact HG3.out
          case measure => simp [intOf]; omega
    · obtain rfl : p = M := by omega
      have HE : Hid (OwnRow wr w.heap.size (.slice ao no co) (madeN size tab xss p)) := by
        show World.ownsRow _ _ _ _ _ _ _
        rw [madeN_len]
        exact HO1.out
      clear HO1
      go_wp2
      go_ret
      exact ⟨_, _, _, rfl, HE.out.full, HB1.out⟩

set_option maxHeartbeats 4000000 in
set_option maxRecDepth 100000 in
theorem specApplyToTuples (size : Int) (ar : Int) (a : Option Addr) (n c : Nat) (tab : List Int) (v : Value) (xss : List (List Int)) (zs : List Int) (cd : Int) (w : World) (h : RowAt w (.slice a n c) tab) (hv : GridAt w v xss) (hi : ApplyToTuplesIs size ar tab xss zs cd) :
    Calls Try.prog 43 #[.int .i64 size, .agg #[.int .i64 ar, .slice a n c], v] w (MadeRow2 w zs cd) := by
  have HP := Lib.hid (OpAt.new w ar a n c tab 27 h)
  have K0 := Lib.hid ((((Kept.start w).read (lives_grid _ _) hv).read (lives_row _ _) h).box w.heap.size rfl (.int .i64 ar) (.slice a n c) 27)
  clear h hv
  by_cases ho : OpOk size ar tab
  · have HO := Lib.hid (Tells.yes ho)
    have HOO := Lib.hid ho
    have hs1 := ho.1.1
    have hs2 := ho.1.2
    obtain ⟨hr1, hr2⟩ := ho.2.1
    obtain ⟨V, hS, hV⟩ := K0.out.grid 1 rfl
    obtain ⟨a', c', rfl, hn, hc⟩ := hS
    have HC := Lib.hid hc
    have HV := Lib.hid hV
    clear hc hV
    by_cases hl : (xss.length : Int) = ar
    · have hlb : ((xss.length : Int) != ar) = false := by simp [hl]
      have hlb' : ((xss.length : Int) == ar) = true := by simp [hl]
      have hpos : 0 < xss.length := by omega
      have hlen4 : xss.length ≤ 4 := by omega
      obtain ⟨b1, off1, rfl, hcell⟩ := HC.out hpos
      have HCE := Lib.hid hcell
      have HLEN := Lib.hid hl
      have HII := Lib.hid hi
      have hlt0 : (0 : Int) < (xss.length : Int) := by omega
      clear HC hl hcell hi
      go_enter Try.func43, Try.ntmps43
      go_wp2_with fail
      refine (l02Ok _ _ _ _ _ true _ HP.out HO.out).mono ?_
      rintro e w1 ⟨rfl, hq1⟩
      have K1 := Lib.hid (K0.out.below hq1.bel)
      have HP1 := Lib.hid (HP.out.below hq1.bel)
      have HB1 := Lib.hid hq1.bel
      have cc0 := K1.out.c 0 rfl
      clear hq1
      go_wp2
      go_loopw [8] (fun i wr => ∃ k : Nat, k ≤ xss.length ∧ i = .int .i64 k ∧ (∀ j, j < k → TupP size (rowN xss 0).length (rowN xss j)) ∧ QW w1 wr) (fun i _ => xss.length - (intOf i).toNat)
      case atStart => exact ⟨0, Nat.zero_le _, rfl, fun j hj => absurd hj (Nat.not_lt_zero _), QW.refl _⟩
      case round =>
        obtain ⟨k, hk, rfl, hall, hq⟩ := hrel
        have HA := Lib.hid hall
        have HQ := Lib.hid hq
        have KQ := Lib.hid (K1.out.below hq.bel)
        clear hall hq
        by_cases hkt : k < xss.length
        · have hx1 := HQ.out.cell (below_cell HB1.out (HCE.out k hkt))
          have hx0 := HQ.out.cell (below_cell HB1.out (HCE.out 0 hpos))
          obtain ⟨a0, c0, hv0, hn0, -⟩ := HV.out 0 hpos
          rw [hv0, Nat.add_zero] at hx0
          have HR := Lib.hid (HQ.out.row ((HV.out k hkt).below HB1.out))
          have hkt' : (k : Int) < (xss.length : Int) := by omega
          clear hv0
          by_cases ht : TupP size (rowN xss 0).length (rowN xss k)
          · have HT := Lib.hid (Tells.yes ht)
            have HTP := Lib.hid ht
            clear ht
            go_wp2
            go_quiet ((go_at_call 70; exact QW.calls_same (l01Tuple _ _ _ _ true _ (((QW.refl _).drewN _).row HR.out) hs1 hs2 HT.out)))
            go_wp2
            go_roundw
            case rel =>
              refine ⟨k + 1, by omega, by go_num, fun j hj => ?_, HQ.out.drewN _⟩
              by_cases hjk : j = k
              · subst hjk; exact HTP.out
              · exact HA.out j (by omega)
            case measure => simp [intOf]; omega
          · have HT := Lib.hid (Tells.no ht)
            have HNT : Hid (¬ TupsP size ar xss) := fun h => ht (h.2 k hkt)
            have HEQ : Hid (zs = [] ∧ cd = 2) := by
              rcases HII.out with ⟨h, _⟩ | ⟨_, _, h1, h2⟩ | ⟨_, h, _⟩
              · exact absurd HOO.out h
              · exact ⟨h1, h2⟩
              · exact absurd h HNT.out
            clear ht
            go_wp2
            go_quiet ((go_at_call 70; exact QW.calls_same (l01Tuple _ _ _ _ false _ (((QW.refl _).drewN _).row HR.out) hs1 hs2 HT.out)))
            go_wp2
            go_ret2
            obtain ⟨rfl, rfl⟩ := HEQ.out
            refine ⟨_, _, _, rfl, ((ownRow_lit _ _ [] (Nat.le_refl _) (by simp)).full).mono (KQ.out.drewN _).bel.size, ((KQ.out.drewN _).below ((Below.refl _ _).alloc (Nat.le_refl _) _)).bel⟩
        · obtain rfl : k = xss.length := by omega
          have HT : Hid (TupsP size ar xss) := ⟨HLEN.out, HA.out⟩
          have HEQ : Hid ((xss.length + (xss.map List.length).sum ≤ 1048576) ∧ zs = madeN size tab xss (rowN xss 0).length ∧ cd = 0) := by
            rcases HII.out with ⟨h, _⟩ | ⟨_, h, _⟩ | ⟨_, _, h⟩
            · exact absurd HOO.out h
            · exact absurd HT.out h
            · exact h
          go_wp2_with fail
          refine (l02Make _ _ _ _ _ _ _ _ (HP1.out.below HQ.out.bel) (KQ.out.r 1 rfl :) HOO.out HT.out HEQ.out.1).mono ?_
          rintro e w3 ⟨a3, n3, c3, rfl, ho3, hb3⟩
          have HO3 := Lib.hid ho3
          have KE := Lib.hid (KQ.out.below hb3)
          have HSZ := Lib.hid KQ.out.bel.size
          clear ho3 hb3
          go_wp2
          go_ret2
          obtain ⟨-, rfl, rfl⟩ := HEQ.out
          exact ⟨_, _, _, rfl, HO3.out.mono HSZ.out, KE.out.bel⟩
    · have hlb : ((xss.length : Int) != ar) = true := by simp [hl]
      have hlb' : ((xss.length : Int) == ar) = false := by simp [hl]
      have HEQ : Hid (zs = [] ∧ cd = 2) := by
        rcases hi with ⟨h, _⟩ | ⟨_, _, h1, h2⟩ | ⟨_, h, _⟩
        · exact absurd ho h
        · exact ⟨h1, h2⟩
        · exact absurd h.1 hl
      clear hl hi ho
      go_enter Try.func43, Try.ntmps43
      go_wp2_with fail
      refine (l02Ok _ _ _ _ _ true _ HP.out HO.out).mono ?_
      rintro e w1 ⟨rfl, hq1⟩
      have K1 := Lib.hid (K0.out.below hq1.bel)
      have cc0 := K1.out.c 0 rfl
      clear hq1
      go_wp2
      go_ret2
      obtain ⟨rfl, rfl⟩ := HEQ.out
      exact ⟨_, _, _, rfl, ((ownRow_lit _ _ [] (Nat.le_refl _) (by simp)).full).mono K1.out.bel.size, (K1.out.below ((Below.refl _ _).alloc (Nat.le_refl _) _)).bel⟩
  · have HO := Lib.hid (Tells.no ho)
    have HEQ : Hid (zs = [] ∧ cd = 1) := by
      rcases hi with ⟨_, h1, h2⟩ | ⟨h, _⟩ | ⟨h, _⟩
      · exact ⟨h1, h2⟩
      · exact absurd h ho
      · exact absurd h ho
    clear ho hi
    go_enter Try.func43, Try.ntmps43
    go_wp2_with fail
    refine (l02Ok _ _ _ _ _ false _ HP.out HO.out).mono ?_
    rintro e w1 ⟨rfl, hq1⟩
    have KE := Lib.hid (K0.out.below hq1.bel)
    clear hq1
    go_wp2
    go_ret2
    obtain ⟨rfl, rfl⟩ := HEQ.out
    exact ⟨_, _, _, rfl, ((ownRow_lit _ _ [] (Nat.le_refl _) (by simp)).full).mono KE.out.bel.size, (KE.out.below ((Below.refl _ _).alloc (Nat.le_refl _) _)).bel⟩

end Go.Proofs.Ytpkmdieaifggoaa
